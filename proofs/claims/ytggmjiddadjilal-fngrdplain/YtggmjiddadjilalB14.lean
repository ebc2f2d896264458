/-
  PROVED HERE: the drawing of a table (l20Table) gives some table that is ok, of the call's own, and turns nothing that was in memory but the reader.
-/
import Derived.Test.YtggmjiddadjilalB12
import Derived.Test.YtggmjiddadjilalB13
import Derived.Deep.DeepCutAuto
namespace Go.Proofs.Ytggmjiddadjilal
open Go.RowKit

theorem OwnR.bk {w w' : World} {base r : Nat} {v : Value} {ur : List (Value × R)} (h : OwnR w base v ur) (k : Bk r w w') (hr : r < base) : OwnR w' base v ur := ⟨row_bk h.own k hr, fun p hp => row_bk (h.cells p hp) k hr, h.apart⟩
/-- what stays of a table while one of its rows is drawn -/
def FT (w : World) (tb : Nat) (vc vr : Value) (gp : Int) (ps : List (Int × Int)) (ur : List (Value × R)) (W : World) : Prop :=
  W.heap[tb]? = some (.cells #[vc, .int .i64 0, .int .i64 0, vr, .int .i64 gp] 37) ∧ OwnCol W w.heap.size vc ps ∧ OwnR W w.heap.size vr ur ∧ W.heap[w.heap.size]? = some (.cells #[.slice none 0 0, .int .i64 0, .int .i64 0, .slice none 0 0, .int .i64 0] 37)
theorem FT.stays {w : World} {tb s0 xb : Nat} {vc vr u : Value} {gp : Int} {ps : List (Int × Int)} {ur : List (Value × R)} (h1 : w.heap.size < tb) (h2 : tb < s0) (hx : s0 ≤ xb) (hu : ∀ b, u.ownBlock = some b → s0 ≤ b)
    (hc : ∀ b, vc.ownBlock = some b → b < s0) (hr : ∀ b, vr.ownBlock = some b → b < s0) (hur : ∀ p ∈ ur, ∀ b, p.1.ownBlock = some b → b < s0) : Stays w.heap.size xb u (FT w tb vc vr gp ps ur) := by
  have hne : ∀ v : Value, (∀ b, v.ownBlock = some b → b < s0) → (v.ownBlock = none ∨ v.ownBlock ≠ some xb) ∧ (v.ownBlock = none ∨ v.ownBlock ≠ u.ownBlock) := by
    intro v hv
    cases hb : v.ownBlock with
    | none => exact ⟨.inl rfl, .inl rfl⟩
    | some b =>
      have := hv b hb
      refine ⟨.inr (fun e => ?_), .inr (fun e => ?_)⟩
      · injection e with e; omega
      · have := hu b e.symm; omega
  have hk : ∀ k, k < s0 → some k ≠ some xb ∧ some k ≠ u.ownBlock := fun k hk => ⟨fun e => by injection e with e; omega, fun e => by have := hu k e.symm; omega⟩
  intro W W' ⟨a1, a2, a3, a4⟩ ho
  exact ⟨(ho.block tb (by omega) (Array.getElem?_eq_some_iff.1 a1).1 (hk tb h2).1 (hk tb h2).2).trans a1, row_off a2 ho (Nat.le_refl _) (hne _ hc).1 (hne _ hc).2,
    a3.off ho (Nat.le_refl _) (hne _ hr).1 (hne _ hr).2 (fun p hp => hne _ (hur p hp)), (ho.block _ (Nat.le_refl _) (Array.getElem?_eq_some_iff.1 a4).1 (hk _ (by omega)).1 (hk _ (by omega)).2).trans a4⟩
/-- one row more -/
theorem OwnR.snoc {w w' : World} {base s0 : Nat} {v v' u : Value} {ur : List (Value × R)} {cs : List C} {b : Bool} (h : OwnR w base v ur) (hu : OwnC w s0 u cs) (hs : base ≤ s0) (hur : ∀ p ∈ ur, ∀ b, p.1.ownBlock = some b → b < s0) (hg : w.grownBy w' v.ownBlock)
    (hown : w'.ownsRow base 51 2 v' (ur.length + 1) (ur.flatMap rowVs ++ [u, .bool b])) : OwnR w' base v' (ur ++ [(u, ⟨cs, b⟩)]) := by
  have ho : Off base none v.ownBlock w w' := Off.grown hg
  have hnn : ∀ x : Value, x.ownBlock = none ∨ x.ownBlock ≠ none := fun x => by cases x.ownBlock <;> simp
  refine ⟨?_, ?_, ?_⟩
  · rw [List.length_append, List.flatMap_append]
    simpa [rowVs] using hown
  · intro p hp
    rcases List.mem_append.1 hp with hp | hp
    · exact row_off (h.cells p hp) ho (Nat.le_refl _) (hnn _) (row_ne (h.cells p hp) h.own (by decide))
    · simp at hp
      subst hp
      exact row_base (row_off hu ho hs (hnn _) (row_ne hu h.own (by decide))) hs
  · rw [List.pairwise_append]
    refine ⟨h.apart, List.pairwise_singleton _ _, fun p hp q hq => ?_⟩
    simp at hq
    subst hq
    cases hb : p.1.ownBlock with
    | none => exact .inl rfl
    | some b1 =>
      refine .inr (fun e => ?_)
      have h1 := hur p hp b1 hb
      have h2 := (row_lt hu e.symm).1
      omega
theorem OwnR.set {w : World} {base g p : Nat} {v : Value} {ur : List (Value × R)} {cur : Array Value} (h : OwnR w base v ur) (hg : w.heap[g]? = some (.cells cur 37)) (x : Value) : OwnR (w.setCell ⟨g, p, none⟩ x) base v ur :=
  ⟨row_set h.own hg (by decide) x, fun q hq => row_set (h.cells q hq) hg (by decide) x, h.apart⟩
/-- five stores into a block -/
def st5 (w : World) (g : Nat) (y0 y1 y2 y3 y4 : Value) : World := ((((w.setCell ⟨g, 0, none⟩ y0).setCell ⟨g, 1, none⟩ y1).setCell ⟨g, 2, none⟩ y2).setCell ⟨g, 3, none⟩ y3).setCell ⟨g, 4, none⟩ y4
theorem st5_bk (w : World) (g : Nat) (y0 y1 y2 y3 y4 : Value) : Bk g w (st5 w g y0 y1 y2 y3 y4) :=
  (Bk.set (Bk.set (Bk.set (Bk.set (Bk.set (Bk.refl g w) (p := ⟨g, 0, none⟩) (.inl rfl) y0) (p := ⟨g, 1, none⟩) (.inl rfl) y1) (p := ⟨g, 2, none⟩) (.inl rfl) y2) (p := ⟨g, 3, none⟩) (.inl rfl) y3) (p := ⟨g, 4, none⟩) (.inl rfl) y4)
theorem Off.ofBk {n g : Nat} {b2 : Option Nat} {w w' : World} (h : Bk g w w') : Off n (some g) b2 w w' := ⟨h.size, fun k _ hl h1 _ => h.block k hl (fun e => h1 (by rw [e]))⟩
theorem fiveZ {w : World} {g : Nat} {x0 x1 x2 x3 x4 : Value} {t : TypeId} (h : w.heap[g]? = some (.cells #[x0, x1, x2, x3, x4] t)) :
    (w.cell? ⟨g, 0, none⟩ = some x0 ∧ w.cell? ⟨g, 1, none⟩ = some x1 ∧ w.cell? ⟨g, 2, none⟩ = some x2 ∧ w.cell? ⟨g, 3, none⟩ = some x3 ∧ w.cell? ⟨g, 4, none⟩ = some x4) ∧ w.frozen? ⟨g, 0, none⟩ = false ∧ w.frozen? ⟨g, 1, none⟩ = false ∧ w.frozen? ⟨g, 2, none⟩ = false ∧ w.frozen? ⟨g, 3, none⟩ = false ∧ w.frozen? ⟨g, 4, none⟩ = false :=
  ⟨⟨cellB h, cellB h, cellB h, cellB h, cellB h⟩, freeB h, freeB h, freeB h, freeB h, freeB h⟩
/-- a table of the call's own abides stores into another block of a table -/
theorem own_st5 {w : World} {base g : Nat} {cur : Array Value} {vc vr : Value} {ps : List (Int × Int)} {ur : List (Value × R)} (h1 : OwnCol w base vc ps) (h2 : OwnR w base vr ur) (hg : w.heap[g]? = some (.cells cur 37)) (y0 y1 y2 y3 y4 : Value) :
    OwnCol (st5 w g y0 y1 y2 y3 y4) base vc ps ∧ OwnR (st5 w g y0 y1 y2 y3 y4) base vr ur := by
  have ho : Off base (some g) none w (st5 w g y0 y1 y2 y3 y4) := Off.ofBk (st5_bk w g y0 y1 y2 y3 y4)
  have hnn : ∀ x : Value, x.ownBlock = none ∨ x.ownBlock ≠ none := fun x => by cases x.ownBlock <;> simp
  exact ⟨row_off h1 ho (Nat.le_refl _) (row_ne_block h1 hg (by decide)) (hnn _), h2.off ho (Nat.le_refl _) (row_ne_block h2.own hg (by decide)) (hnn _) (fun p hp => ⟨row_ne_block (h2.cells p hp) hg (by decide), hnn _⟩)⟩
/-- one row without cells, in a new block -/
theorem one_row {base : Nat} (w : World) (h : base ≤ w.heap.size) : OwnR (w.alloc (.cells #[.slice none 0 0, .bool false] 51)) base (.slice (some ⟨w.heap.size, 0, none⟩) 1 1) [(.slice none 0 0, dR)] :=
  ⟨⟨rfl, .inr ⟨w.heap.size, 1, _, rfl, h, newestB _ _, Nat.le_refl _, by decide, rfl, rfl⟩⟩, fun p hp => by simp at hp; subst hp; exact ⟨rfl, .inl ⟨rfl, rfl⟩⟩, List.pairwise_singleton _ _⟩
theorem st5_cells {w : World} {g : Nat} {x0 x1 x2 x3 x4 : Value} {t : TypeId} (h : w.heap[g]? = some (.cells #[x0, x1, x2, x3, x4] t)) (y0 y1 y2 y3 y4 : Value) (X : Obj) :
    ((((((w.setCell ⟨g, 0, none⟩ y0).setCell ⟨g, 1, none⟩ y1).setCell ⟨g, 2, none⟩ y2).setCell ⟨g, 3, none⟩ y3).setCell ⟨g, 4, none⟩ y4).alloc X).cell? ⟨g, 0, none⟩ = some y0 ∧ ((((((w.setCell ⟨g, 0, none⟩ y0).setCell ⟨g, 1, none⟩ y1).setCell ⟨g, 2, none⟩ y2).setCell ⟨g, 3, none⟩ y3).setCell ⟨g, 4, none⟩ y4).alloc X).cell? ⟨g, 1, none⟩ = some y1 ∧ ((((((w.setCell ⟨g, 0, none⟩ y0).setCell ⟨g, 1, none⟩ y1).setCell ⟨g, 2, none⟩ y2).setCell ⟨g, 3, none⟩ y3).setCell ⟨g, 4, none⟩ y4).alloc X).cell? ⟨g, 2, none⟩ = some y2 ∧ ((((((w.setCell ⟨g, 0, none⟩ y0).setCell ⟨g, 1, none⟩ y1).setCell ⟨g, 2, none⟩ y2).setCell ⟨g, 3, none⟩ y3).setCell ⟨g, 4, none⟩ y4).alloc X).cell? ⟨g, 3, none⟩ = some y3 ∧ ((((((w.setCell ⟨g, 0, none⟩ y0).setCell ⟨g, 1, none⟩ y1).setCell ⟨g, 2, none⟩ y2).setCell ⟨g, 3, none⟩ y3).setCell ⟨g, 4, none⟩ y4).alloc X).cell? ⟨g, 4, none⟩ = some y4 := by
  have h5 := setB (setB (setB (setB (setB h (p := 0) y0) (p := 1) y1) (p := 2) y2) (p := 3) y3) (p := 4) y4
  have h6 := (Below.heap_alloc _ X _ (Array.getElem?_eq_some_iff.1 h5).1).trans h5
  simp at h6
  exact (fiveZ h6).1
theorem tblB_dflt : tblB ⟨[], 0, 0, [dR], 0⟩ = true := by decide
theorem few_dflt : ∀ p ∈ [(Value.slice none 0 0, dR)], p.2.cells.length ≤ 4 ∧ ∀ x ∈ p.2.cells, Cx x := fun p hp => by
  simp at hp
  subst hp
  exact ⟨Nat.zero_le _, fun x hx => by cases hx⟩
theorem own_ne {v : Value} {b : Nat} (h : ∀ i, v.ownBlock = some i → b < i) : some b ≠ v.ownBlock := fun e => by have := h b e.symm; omega
set_option maxRecDepth 100000 in
set_option maxHeartbeats 8000000 in
theorem l20Table_any (r B : Nat) (w : World) (h : Rd w r B) (hB : B ≤ 1000) :
    Calls Try.prog 56 #[.pointer (some ⟨r, 0, none⟩)] w fun e w' => ∃ (vc vr : Value) (t : T) (ur : List (Value × R)), e = .returned (.agg #[vc, .int .i64 t.head, .int .i64 t.foot, vr, .int .i64 t.gap]) ∧ t.rows = ur.map (·.2) ∧ tblB t = true ∧ (∀ p ∈ ur, p.2.cells.length ≤ 4 ∧ ∀ x ∈ p.2.cells, Cx x) ∧ OwnCol w' w.heap.size vc t.cols ∧ OwnR w' w.heap.size vr ur ∧ Rd w' r (B + 2000) ∧ Bk r w w' := by
  have hlt := h.lt
  have HR : Hid (Rd w r B) := h
  clear h
  go_enter Try.func56, Try.ntmps56
  go_wp2_with fail
  refine (pick_any _ B _ _ (HR.out.alloc _) (by omega)).mono ?_
  rintro e w1 ⟨gp, rfl, _, hR1, hb1⟩
  have X1 : w1.heap[w.heap.size]? = some (.cells #[.slice none 0 0, .int .i64 0, .int .i64 0, .slice none 0 0, .int .i64 0] 37) := (hb1.block w.heap.size (by simp) (by omega)).trans (newestB _ _)
  have hz1 : w.heap.size < w1.heap.size := (Array.getElem?_eq_some_iff.1 X1).1
  have K1 : Bk r w w1 := ((Bk.refl r w).alloc _).trans hb1
  go_wp2_with fail
  refine (pick_any _ (B + 1) _ _ (hR1.alloc _) (by omega)).mono ?_
  rintro e w2 ⟨m0, rfl, hm0, hR2, hb2⟩
  obtain ⟨m1, m2⟩ := hm0 (by omega)
  obtain ⟨M, rfl⟩ := Int.eq_ofNat_of_zero_le m1
  have T2 := Hid.intro ((hb2.block w1.heap.size (by simp) (by omega)).trans (newestB _ _))
  have X2 := Hid.intro ((hb2.block w.heap.size (by simp; omega) (by omega)).trans ((Below.heap_alloc _ _ _ hz1).trans X1))
  have R2 := Hid.intro hR2
  have K2 := Hid.intro ((K1.alloc _).trans hb2)
  have htr : r < w1.heap.size := by omega
  have htn : w.heap.size ≤ w1.heap.size := by omega
  have htb : w1.heap.size ≠ r := by omega
  clear hR2 hb2 hm0 m1 hR1 hb1 X1 K1
  go_wp2_with fail
  go_loopw [4] (fun o W => ∃ (m : Nat) (vc : Value) (ps : List (Int × Int)), o = .int .i64 m ∧ m + ps.length ≤ 5 ∧ Hid (W.heap[w1.heap.size]? = some (.cells #[vc, .int .i64 0, .int .i64 0, .slice none 0 0, .int .i64 gp] 37)) ∧ Hid (OwnCol W w.heap.size vc ps) ∧ Hid (Rd W r (B + 2 + 3 * ps.length)) ∧ Hid (Bk r w W) ∧ Hid (W.heap[w.heap.size]? = some (.cells #[.slice none 0 0, .int .i64 0, .int .i64 0, .slice none 0 0, .int .i64 0] 37))) (fun q _ => (intOf q).toNat)
  case atStart => exact ⟨M, .slice none 0 0, [], rfl, by simp; omega, T2.out, ⟨rfl, .inl ⟨rfl, rfl⟩⟩, R2.out, K2.out, X2.out⟩
  case round =>
    obtain ⟨m, vc, ps, rfl, hm, HT, HO, HRd, HBk, HX⟩ := hrel
    by_cases hm0 : 0 < m
    · have hm' : (0 : Int) < (m : Int) := by omega
      go_wp2_with fail
      generalize Value.bool _ = b15
      obtain ⟨i0, hi0, hz0, hz1, hz2⟩ := info_parts infoCol
      have hnn : ps.length ≤ 5 := by omega
      have hRd := HRd.out
      have hBk := HBk.out
      have hTb := HT.out
      have hOwn := HO.out
      have hUn : ∀ i, vc.ownBlock = some i → w.heap.size ≤ i := fun i hi => (row_lt hOwn hi).1
      have hUr : ∀ i, vc.ownBlock = some i → r < i := fun i hi => by have := hUn i hi; omega
      have hUz := ne_of_own (row_ne_block hOwn HX.out (by decide))
      have hF : Stays w.heap.size w1.heap.size vc (fun W => W.heap[w.heap.size]? = some (.cells #[.slice none 0 0, .int .i64 0, .int .i64 0, .slice none 0 0, .int .i64 0] 37)) := fun W W' hW ho => (ho.block _ (Nat.le_refl _) (Array.getElem?_eq_some_iff.1 hW).1 (by simp; omega) hUz).trans hW
      have hFr := HX.out
      clear HT HO HRd HBk HX
      refine wp_region_inv2 (colR r (B + 2 + 3 * ps.length) w.heap.size w (fun W => W.heap[w.heap.size]? = some (.cells #[.slice none 0 0, .int .i64 0, .int .i64 0, .slice none 0 0, .int .i64 0] 37)) w.heap.size vc ps.length (ps.flatMap colVs) w1.heap.size #[vc, .int .i64 0, .int .i64 0, .slice none 0 0, .int .i64 gp] (fun v18 v19 v20 v21 v22 v23 v24 v25 v26 v27 v28 v29 v30 v31 v32 v33 v34 v35 v36 v37 v38 => ⟨#[.pointer (some ⟨r, 0, none⟩), undef, .pointer (some ⟨w.heap.size, 0, none⟩), .pointer (some ⟨w1.heap.size, 0, none⟩), .int .i64 (m : Int), undef, undef, undef, undef, .pointer (some ⟨r, 0, none⟩), .int .i64 gp, .agg #[.slice none 0 0, .int .i64 0, .int .i64 0, .slice none 0 0, .int .i64 gp], .pointer (some ⟨r, 0, none⟩), .int .i64 (M : Int), .int .i64 (m : Int), b15, u16, u17, v18, v19, v20, v21, v22, v23, v24, v25, v26, v27, v28, v29, v30, v31, v32, v33, v34, v35, v36, v37, v38, undef, undef, undef, undef, undef, undef, undef, undef, undef, undef, undef, undef, undef, undef, undef, undef, undef, undef, undef, undef, undef, undef, undef, undef, undef, undef, undef, undef, undef, undef, undef, undef, undef, undef, undef, undef, undef, undef, undef, undef, undef, undef, undef, undef, undef, undef, undef, undef, undef, undef, undef, undef, undef, undef, undef], []⟩)) (by kernel_rfl) (by kernel_rfl) ?hs ?hd ?h0
      case h0 =>
        exact ⟨_, _, _, _, _, _, _, _, _, _, _, _, _, _, _, _, _, _, _, _, _, rfl, ⟨(fun h => by cases h), (fun h => by cases h), (fun h => by cases h), (fun h => by cases h), (fun h => by cases h), (fun h => by cases h), (fun h => by cases h), (fun h _ => by cases h), (fun h => by cases h), (fun h => by cases h), (fun h _ => by cases h), (fun h => by cases h), (fun h => by cases h), (fun h _ => by cases h), (fun h => by cases h), (fun h => by cases h), (fun h _ => by cases h), (fun h => by cases h), (fun h _ => by cases h), (fun h => by cases h), hRd.drew, hBk.drew, hF _ _ hFr (Off.bk ((Bk.refl r _).drew) hlt), (fun _ => hOwn), (fun h => by cases h), (fun _ => hTb), (fun h => by cases h)⟩⟩
      case hs =>
        rename_i K0 hK0
        clear hK0
        intro L a W i o hJ hcl ho hLi haft K hK
        obtain ⟨v18, v19, v20, v21, v22, v23, v24, v25, v26, v27, v28, v29, v30, v31, v32, v33, v34, v35, v36, v37, v38, ha, J⟩ := hJ
        dsimp only at ha
        subst ha
        have hi : i < 22 := by
          have := (Array.getElem?_eq_some_iff.1 ho).1
          simpa using this
        rcases (by omega : i = 0 ∨ i = 1 ∨ i = 2 ∨ i = 3 ∨ i = 4 ∨ i = 5 ∨ i = 6 ∨ i = 7 ∨ i = 8 ∨ i = 9 ∨ i = 10 ∨ i = 11 ∨ i = 12 ∨ i = 13 ∨ i = 14 ∨ i = 15 ∨ i = 16 ∨ i = 17 ∨ i = 18 ∨ i = 19 ∨ i = 20 ∨ i = 21) with rfl | rfl | rfl | rfl | rfl | rfl | rfl | rfl | rfl | rfl | rfl | rfl | rfl | rfl | rfl | rfl | rfl | rfl | rfl | rfl | rfl | rfl
        all_goals
          simp only [List.getElem?_toArray, List.getElem?_cons_zero, List.getElem?_cons_succ, Option.some.injEq] at ho
          subst ho
          clear hi
        · skip
          have hLast : L 21 = false := hcl 21 0 (by kernel_rfl) hLi
          have hT : L 19 = false := (hcl 19 1 (by kernel_rfl) (hcl 1 0 (by kernel_rfl) hLi))
          go_simp
          exact hK _ _ ⟨_, _, _, _, _, _, _, _, _, _, _, _, _, _, _, _, _, _, _, _, _, rfl, ⟨(fun _ => rfl), (fun h => J.f1 (un h)), (fun h => J.f2 (un h)), (fun h => J.f3 (un h)), (fun h => J.f4 (un h)), (fun h => J.f5 (un h)), (fun h => J.f6 (un h)), (fun h h2 => J.f7 (un h) (by rwa [upd_ne rfl] at h2)), (fun h => J.f8 (un h)), (fun h => J.f9 (un h)), (fun h h2 => J.f10 (un h) (by rwa [upd_ne rfl] at h2)), (fun h => J.f11 (un h)), (fun h => J.f12 (un h)), (fun h h2 => J.f13 (un h) (by rwa [upd_ne rfl] at h2)), (fun h => J.f14 (un h)), (fun h => J.f15 (un h)), (fun h h2 => J.f16 (un h) (by rwa [upd_ne rfl] at h2)), (fun h => J.f17 (un h)), (fun h h2 => J.f18 (un h) (by rwa [upd_ne rfl] at h2)), (fun h => J.f20 (un h)), (by rw [colRCnt_same (by decide)]; exact J.rd), (J.bk), (J.fr), (fun h => J.own (un h)), (fun h => by rw [upd_ne rfl, hT] at h; cases h), (fun h => J.tb0 (un h)), (fun h => by rw [upd_ne rfl, hLast] at h; cases h)⟩⟩
        · skip
          have hLast : L 21 = false := hcl 21 1 (by kernel_rfl) hLi
          have hT : L 19 = false := (hcl 19 1 (by kernel_rfl) hLi)
          obtain rfl := J.f0 (haft ⟨0, .data⟩ (by simp) rfl)
          have hc : W.cell? ⟨w1.heap.size, 0, none⟩ = some vc := (cellB (J.tb0 hLast)).trans rfl
          go_simp
          exact hK _ _ ⟨_, _, _, _, _, _, _, _, _, _, _, _, _, _, _, _, _, _, _, _, _, rfl, ⟨(fun h => J.f0 (un h)), (fun _ => rfl), (fun h => J.f2 (un h)), (fun h => J.f3 (un h)), (fun h => J.f4 (un h)), (fun h => J.f5 (un h)), (fun h => J.f6 (un h)), (fun h h2 => J.f7 (un h) (by rwa [upd_ne rfl] at h2)), (fun h => J.f8 (un h)), (fun h => J.f9 (un h)), (fun h h2 => J.f10 (un h) (by rwa [upd_ne rfl] at h2)), (fun h => J.f11 (un h)), (fun h => J.f12 (un h)), (fun h h2 => J.f13 (un h) (by rwa [upd_ne rfl] at h2)), (fun h => J.f14 (un h)), (fun h => J.f15 (un h)), (fun h h2 => J.f16 (un h) (by rwa [upd_ne rfl] at h2)), (fun h => J.f17 (un h)), (fun h h2 => J.f18 (un h) (by rwa [upd_ne rfl] at h2)), (fun h => J.f20 (un h)), (by rw [colRCnt_same (by decide)]; exact J.rd), (J.bk), (J.fr), (fun h => J.own (un h)), (fun h => by rw [upd_ne rfl, hT] at h; cases h), (fun h => J.tb0 (un h)), (fun h => by rw [upd_ne rfl, hLast] at h; cases h)⟩⟩
        · skip
          have hLast : L 21 = false := hcl 21 2 (by kernel_rfl) hLi
          have hT : L 19 = false := (hcl 19 18 (by kernel_rfl) (hcl 18 17 (by kernel_rfl) (hcl 17 16 (by kernel_rfl) (hcl 16 13 (by kernel_rfl) (hcl 13 2 (by kernel_rfl) hLi)))))
          go_simp
          exact hK _ _ ⟨_, _, _, _, _, _, _, _, _, _, _, _, _, _, _, _, _, _, _, _, _, rfl, ⟨(fun h => J.f0 (un h)), (fun h => J.f1 (un h)), (fun _ => rfl), (fun h => J.f3 (un h)), (fun h => J.f4 (un h)), (fun h => J.f5 (un h)), (fun h => J.f6 (un h)), (fun h h2 => J.f7 (un h) (by rwa [upd_ne rfl] at h2)), (fun h => J.f8 (un h)), (fun h => J.f9 (un h)), (fun h h2 => J.f10 (un h) (by rwa [upd_ne rfl] at h2)), (fun h => J.f11 (un h)), (fun h => J.f12 (un h)), (fun h h2 => J.f13 (un h) (by rwa [upd_ne rfl] at h2)), (fun h => J.f14 (un h)), (fun h => J.f15 (un h)), (fun h h2 => J.f16 (un h) (by rwa [upd_ne rfl] at h2)), (fun h => J.f17 (un h)), (fun h h2 => J.f18 (un h) (by rwa [upd_ne rfl] at h2)), (fun h => J.f20 (un h)), (by rw [colRCnt_same (by decide)]; exact J.rd), (J.bk), (J.fr), (fun h => J.own (un h)), (fun h => by rw [upd_ne rfl, hT] at h; cases h), (fun h => J.tb0 (un h)), (fun h => by rw [upd_ne rfl, hLast] at h; cases h)⟩⟩
        · skip
          have hLast : L 21 = false := hcl 21 3 (by kernel_rfl) hLi
          have hT : L 19 = false := (hcl 19 18 (by kernel_rfl) (hcl 18 17 (by kernel_rfl) (hcl 17 16 (by kernel_rfl) (hcl 16 13 (by kernel_rfl) (hcl 13 3 (by kernel_rfl) hLi)))))
          go_simp
          exact hK _ _ ⟨_, _, _, _, _, _, _, _, _, _, _, _, _, _, _, _, _, _, _, _, _, rfl, ⟨(fun h => J.f0 (un h)), (fun h => J.f1 (un h)), (fun h => J.f2 (un h)), (fun _ => rfl), (fun h => J.f4 (un h)), (fun h => J.f5 (un h)), (fun h => J.f6 (un h)), (fun h h2 => J.f7 (un h) (by rwa [upd_ne rfl] at h2)), (fun h => J.f8 (un h)), (fun h => J.f9 (un h)), (fun h h2 => J.f10 (un h) (by rwa [upd_ne rfl] at h2)), (fun h => J.f11 (un h)), (fun h => J.f12 (un h)), (fun h h2 => J.f13 (un h) (by rwa [upd_ne rfl] at h2)), (fun h => J.f14 (un h)), (fun h => J.f15 (un h)), (fun h h2 => J.f16 (un h) (by rwa [upd_ne rfl] at h2)), (fun h => J.f17 (un h)), (fun h h2 => J.f18 (un h) (by rwa [upd_ne rfl] at h2)), (fun h => J.f20 (un h)), (by rw [colRCnt_same (by decide)]; exact J.rd), (J.bk), (J.fr), (fun h => J.own (un h)), (fun h => by rw [upd_ne rfl, hT] at h; cases h), (fun h => J.tb0 (un h)), (fun h => by rw [upd_ne rfl, hLast] at h; cases h)⟩⟩
        · skip
          have hLast : L 21 = false := hcl 21 4 (by kernel_rfl) hLi
          have hT : L 19 = false := (hcl 19 18 (by kernel_rfl) (hcl 18 17 (by kernel_rfl) (hcl 17 16 (by kernel_rfl) (hcl 16 13 (by kernel_rfl) (hcl 13 6 (by kernel_rfl) (hcl 6 5 (by kernel_rfl) (hcl 5 4 (by kernel_rfl) hLi)))))))
          go_simp
          exact hK _ _ ⟨_, _, _, _, _, _, _, _, _, _, _, _, _, _, _, _, _, _, _, _, _, rfl, ⟨(fun h => J.f0 (un h)), (fun h => J.f1 (un h)), (fun h => J.f2 (un h)), (fun h => J.f3 (un h)), (fun _ => rfl), (fun h => J.f5 (un h)), (fun h => J.f6 (un h)), (fun h h2 => J.f7 (un h) (by rwa [upd_ne rfl] at h2)), (fun h => J.f8 (un h)), (fun h => J.f9 (un h)), (fun h h2 => J.f10 (un h) (by rwa [upd_ne rfl] at h2)), (fun h => J.f11 (un h)), (fun h => J.f12 (un h)), (fun h h2 => J.f13 (un h) (by rwa [upd_ne rfl] at h2)), (fun h => J.f14 (un h)), (fun h => J.f15 (un h)), (fun h h2 => J.f16 (un h) (by rwa [upd_ne rfl] at h2)), (fun h => J.f17 (un h)), (fun h h2 => J.f18 (un h) (by rwa [upd_ne rfl] at h2)), (fun h => J.f20 (un h)), (by rw [colRCnt_same (by decide)]; exact J.rd), (J.bk), (J.fr), (fun h => J.own (un h)), (fun h => by rw [upd_ne rfl, hT] at h; cases h), (fun h => J.tb0 (un h)), (fun h => by rw [upd_ne rfl, hLast] at h; cases h)⟩⟩
        · skip
          have hLast : L 21 = false := hcl 21 5 (by kernel_rfl) hLi
          have hT : L 19 = false := (hcl 19 18 (by kernel_rfl) (hcl 18 17 (by kernel_rfl) (hcl 17 16 (by kernel_rfl) (hcl 16 13 (by kernel_rfl) (hcl 13 6 (by kernel_rfl) (hcl 6 5 (by kernel_rfl) hLi))))))
          obtain rfl := J.f4 (haft ⟨4, .data⟩ (by simp) rfl)
          go_simp
          go_wp2_with (go_at_call 38; refine (pick_any r _ _ _ J.rd (by have := colRCnt_le L; omega)).mono ?_; rintro e W2 ⟨k, rfl, hk, hR, hb⟩)
          have hk2 := hk (by omega)
          exact ⟨_, _, _, _, _, _, _, _, _, _, _, _, _, _, _, _, _, _, _, _, _, rfl, ⟨(fun h => J.f0 (un h)), (fun h => J.f1 (un h)), (fun h => J.f2 (un h)), (fun h => J.f3 (un h)), (fun h => J.f4 (un h)), (fun _ => ⟨k, rfl, by omega, by omega⟩), (fun h => J.f6 (un h)), (fun h h2 => (J.f7 (un h) (by rwa [upd_ne rfl] at h2)).bk hlt hb), (fun h => J.f8 (un h)), (fun h => J.f9 (un h)), (fun h h2 => (J.f10 (un h) (by rwa [upd_ne rfl] at h2)).bk hlt hb), (fun h => J.f11 (un h)), (fun h => J.f12 (un h)), (fun h h2 => (J.f13 (un h) (by rwa [upd_ne rfl] at h2)).bk hlt hb), (fun h => J.f14 (un h)), (fun h => J.f15 (un h)), (fun h h2 => (J.f16 (un h) (by rwa [upd_ne rfl] at h2)).bk hlt hb), (fun h => J.f17 (un h)), (fun h h2 => (J.f18 (un h) (by rwa [upd_ne rfl] at h2)).bk hlt hb), (fun h => J.f20 (un h)), (by rw [colRCnt_5 hLi, ← Nat.add_assoc]; exact hR), (J.bk.trans hb), (hF _ _ J.fr (Off.bk hb hlt)), (fun h => row_bk (J.own (un h)) hb hlt), (fun h => by rw [upd_ne rfl, hT] at h; cases h), (fun h => (hb.block w1.heap.size (Array.getElem?_eq_some_iff.1 (J.tb0 (un h))).1 htb).trans (J.tb0 (un h))), (fun h => by rw [upd_ne rfl, hLast] at h; cases h)⟩⟩
        · skip
          have hLast : L 21 = false := hcl 21 6 (by kernel_rfl) hLi
          have hT : L 19 = false := (hcl 19 18 (by kernel_rfl) (hcl 18 17 (by kernel_rfl) (hcl 17 16 (by kernel_rfl) (hcl 16 13 (by kernel_rfl) (hcl 13 6 (by kernel_rfl) hLi)))))
          obtain ⟨k, rfl, k0, k1⟩ := J.f5 (haft ⟨5, .data⟩ (by simp) rfl)
          go_simp
          exact hK _ _ ⟨_, _, _, _, _, _, _, _, _, _, _, _, _, _, _, _, _, _, _, _, _, rfl, ⟨(fun h => J.f0 (un h)), (fun h => J.f1 (un h)), (fun h => J.f2 (un h)), (fun h => J.f3 (un h)), (fun h => J.f4 (un h)), (fun h => J.f5 (un h)), (fun _ => ⟨k, rfl⟩), (fun h h2 => J.f7 (un h) (by rwa [upd_ne rfl] at h2)), (fun h => J.f8 (un h)), (fun h => J.f9 (un h)), (fun h h2 => J.f10 (un h) (by rwa [upd_ne rfl] at h2)), (fun h => J.f11 (un h)), (fun h => J.f12 (un h)), (fun h h2 => J.f13 (un h) (by rwa [upd_ne rfl] at h2)), (fun h => J.f14 (un h)), (fun h => J.f15 (un h)), (fun h h2 => J.f16 (un h) (by rwa [upd_ne rfl] at h2)), (fun h => J.f17 (un h)), (fun h h2 => J.f18 (un h) (by rwa [upd_ne rfl] at h2)), (fun h => J.f20 (un h)), (by rw [colRCnt_same (by decide)]; exact J.rd), (J.bk), (J.fr), (fun h => J.own (un h)), (fun h => by rw [upd_ne rfl, hT] at h; cases h), (fun h => J.tb0 (un h)), (fun h => by rw [upd_ne rfl, hLast] at h; cases h)⟩⟩
        · skip
          have hLast : L 21 = false := hcl 21 7 (by kernel_rfl) hLi
          have hT : L 19 = false := (hcl 19 18 (by kernel_rfl) (hcl 18 17 (by kernel_rfl) (hcl 17 16 (by kernel_rfl) (hcl 16 13 (by kernel_rfl) (hcl 13 12 (by kernel_rfl) (hcl 12 11 (by kernel_rfl) (hcl 11 10 (by kernel_rfl) (hcl 10 7 (by kernel_rfl) hLi))))))))
          have hsz := J.bk.size
          go_simp
          exact hK _ _ ⟨_, _, _, _, _, _, _, _, _, _, _, _, _, _, _, _, _, _, _, _, _, rfl, ⟨(fun h => J.f0 (un h)), (fun h => J.f1 (un h)), (fun h => J.f2 (un h)), (fun h => J.f3 (un h)), (fun h => J.f4 (un h)), (fun h => J.f5 (un h)), (fun h => J.f6 (un h)), (fun _ _ => ⟨W.heap.size, _, rfl, Hp.new hsz _, rfl⟩), (fun h => J.f8 (un h)), (fun h => J.f9 (un h)), (fun h h2 => (J.f10 (un h) (by rwa [upd_ne rfl] at h2)).bk hlt (bk_alloc r W _)), (fun h => J.f11 (un h)), (fun h => J.f12 (un h)), (fun h h2 => (J.f13 (un h) (by rwa [upd_ne rfl] at h2)).bk hlt (bk_alloc r W _)), (fun h => J.f14 (un h)), (fun h => J.f15 (un h)), (fun h h2 => (J.f16 (un h) (by rwa [upd_ne rfl] at h2)).bk hlt (bk_alloc r W _)), (fun h => J.f17 (un h)), (fun h h2 => (J.f18 (un h) (by rwa [upd_ne rfl] at h2)).bk hlt (bk_alloc r W _)), (fun h => J.f20 (un h)), (by rw [colRCnt_same (by decide)]; exact J.rd.alloc _), (J.bk.alloc _), (hF _ _ J.fr (Off.bk (bk_alloc r W _) hlt)), (fun h => row_bk (J.own (un h)) (bk_alloc r W _) hlt), (fun h => by rw [upd_ne rfl, hT] at h; cases h), (fun h => (Below.heap_alloc _ _ _ (Array.getElem?_eq_some_iff.1 (J.tb0 (un h))).1).trans (J.tb0 (un h))), (fun h => by rw [upd_ne rfl, hLast] at h; cases h)⟩⟩
        · skip
          have hLast : L 21 = false := hcl 21 8 (by kernel_rfl) hLi
          have hT : L 19 = false := (hcl 19 18 (by kernel_rfl) (hcl 18 17 (by kernel_rfl) (hcl 17 16 (by kernel_rfl) (hcl 16 13 (by kernel_rfl) (hcl 13 12 (by kernel_rfl) (hcl 12 11 (by kernel_rfl) (hcl 11 10 (by kernel_rfl) (hcl 10 9 (by kernel_rfl) (hcl 9 8 (by kernel_rfl) hLi)))))))))
          go_simp
          exact hK _ _ ⟨_, _, _, _, _, _, _, _, _, _, _, _, _, _, _, _, _, _, _, _, _, rfl, ⟨(fun h => J.f0 (un h)), (fun h => J.f1 (un h)), (fun h => J.f2 (un h)), (fun h => J.f3 (un h)), (fun h => J.f4 (un h)), (fun h => J.f5 (un h)), (fun h => J.f6 (un h)), (fun h h2 => J.f7 (un h) (by rwa [upd_ne rfl] at h2)), (fun _ => rfl), (fun h => J.f9 (un h)), (fun h h2 => J.f10 (un h) (by rwa [upd_ne rfl] at h2)), (fun h => J.f11 (un h)), (fun h => J.f12 (un h)), (fun h h2 => J.f13 (un h) (by rwa [upd_ne rfl] at h2)), (fun h => J.f14 (un h)), (fun h => J.f15 (un h)), (fun h h2 => J.f16 (un h) (by rwa [upd_ne rfl] at h2)), (fun h => J.f17 (un h)), (fun h h2 => J.f18 (un h) (by rwa [upd_ne rfl] at h2)), (fun h => J.f20 (un h)), (by rw [colRCnt_same (by decide)]; exact J.rd), (J.bk), (J.fr), (fun h => J.own (un h)), (fun h => by rw [upd_ne rfl, hT] at h; cases h), (fun h => J.tb0 (un h)), (fun h => by rw [upd_ne rfl, hLast] at h; cases h)⟩⟩
        · skip
          have hLast : L 21 = false := hcl 21 9 (by kernel_rfl) hLi
          have hT : L 19 = false := (hcl 19 18 (by kernel_rfl) (hcl 18 17 (by kernel_rfl) (hcl 17 16 (by kernel_rfl) (hcl 16 13 (by kernel_rfl) (hcl 13 12 (by kernel_rfl) (hcl 12 11 (by kernel_rfl) (hcl 11 10 (by kernel_rfl) (hcl 10 9 (by kernel_rfl) hLi))))))))
          obtain rfl := J.f8 (haft ⟨8, .data⟩ (by simp) rfl)
          go_simp
          go_wp2_with (go_at_call 38; refine (pick_any r _ _ _ J.rd (by have := colRCnt_le L; omega)).mono ?_; rintro e W2 ⟨k, rfl, hk, hR, hb⟩)
          have hk2 := hk (by omega)
          exact ⟨_, _, _, _, _, _, _, _, _, _, _, _, _, _, _, _, _, _, _, _, _, rfl, ⟨(fun h => J.f0 (un h)), (fun h => J.f1 (un h)), (fun h => J.f2 (un h)), (fun h => J.f3 (un h)), (fun h => J.f4 (un h)), (fun h => J.f5 (un h)), (fun h => J.f6 (un h)), (fun h h2 => (J.f7 (un h) (by rwa [upd_ne rfl] at h2)).bk hlt hb), (fun h => J.f8 (un h)), (fun _ => ⟨k, rfl, by omega, by omega⟩), (fun h h2 => (J.f10 (un h) (by rwa [upd_ne rfl] at h2)).bk hlt hb), (fun h => J.f11 (un h)), (fun h => J.f12 (un h)), (fun h h2 => (J.f13 (un h) (by rwa [upd_ne rfl] at h2)).bk hlt hb), (fun h => J.f14 (un h)), (fun h => J.f15 (un h)), (fun h h2 => (J.f16 (un h) (by rwa [upd_ne rfl] at h2)).bk hlt hb), (fun h => J.f17 (un h)), (fun h h2 => (J.f18 (un h) (by rwa [upd_ne rfl] at h2)).bk hlt hb), (fun h => J.f20 (un h)), (by rw [colRCnt_9 hLi, ← Nat.add_assoc]; exact hR), (J.bk.trans hb), (hF _ _ J.fr (Off.bk hb hlt)), (fun h => row_bk (J.own (un h)) hb hlt), (fun h => by rw [upd_ne rfl, hT] at h; cases h), (fun h => (hb.block w1.heap.size (Array.getElem?_eq_some_iff.1 (J.tb0 (un h))).1 htb).trans (J.tb0 (un h))), (fun h => by rw [upd_ne rfl, hLast] at h; cases h)⟩⟩
        · skip
          have hLast : L 21 = false := hcl 21 10 (by kernel_rfl) hLi
          have hT : L 19 = false := (hcl 19 18 (by kernel_rfl) (hcl 18 17 (by kernel_rfl) (hcl 17 16 (by kernel_rfl) (hcl 16 13 (by kernel_rfl) (hcl 13 12 (by kernel_rfl) (hcl 12 11 (by kernel_rfl) (hcl 11 10 (by kernel_rfl) hLi)))))))
          obtain ⟨g, arr, rfl, hg, rfl⟩ := J.f7 (haft ⟨7, .data⟩ (by simp) rfl) hT
          obtain ⟨k, rfl, k0, k1⟩ := J.f9 (haft ⟨9, .data⟩ (by simp) rfl)
          have k2 : k < 4 := by omega
          obtain ⟨v, hv⟩ := lit4 10 25 50 100 k k0 k2
          go_simp
          exact hK _ _ ⟨_, _, _, _, _, _, _, _, _, _, _, _, _, _, _, _, _, _, _, _, _, rfl, ⟨(fun h => J.f0 (un h)), (fun h => J.f1 (un h)), (fun h => J.f2 (un h)), (fun h => J.f3 (un h)), (fun h => J.f4 (un h)), (fun h => J.f5 (un h)), (fun h => J.f6 (un h)), (fun h h2 => J.f7 (un h) (by rwa [upd_ne rfl] at h2)), (fun h => J.f8 (un h)), (fun h => J.f9 (un h)), (fun _ _ => ⟨g, _, _, rfl, hg, v, hv⟩), (fun h => J.f11 (un h)), (fun h => J.f12 (un h)), (fun h h2 => J.f13 (un h) (by rwa [upd_ne rfl] at h2)), (fun h => J.f14 (un h)), (fun h => J.f15 (un h)), (fun h h2 => J.f16 (un h) (by rwa [upd_ne rfl] at h2)), (fun h => J.f17 (un h)), (fun h h2 => J.f18 (un h) (by rwa [upd_ne rfl] at h2)), (fun h => J.f20 (un h)), (by rw [colRCnt_same (by decide)]; exact J.rd), (J.bk), (J.fr), (fun h => J.own (un h)), (fun h => by rw [upd_ne rfl, hT] at h; cases h), (fun h => J.tb0 (un h)), (fun h => by rw [upd_ne rfl, hLast] at h; cases h)⟩⟩
        · skip
          have hLast : L 21 = false := hcl 21 11 (by kernel_rfl) hLi
          have hT : L 19 = false := (hcl 19 18 (by kernel_rfl) (hcl 18 17 (by kernel_rfl) (hcl 17 16 (by kernel_rfl) (hcl 16 13 (by kernel_rfl) (hcl 13 12 (by kernel_rfl) (hcl 12 11 (by kernel_rfl) hLi))))))
          obtain ⟨g, k, arr, rfl, hg, v, hv⟩ := J.f10 (haft ⟨10, .data⟩ (by simp) rfl) hT
          have hc : W.cell? ⟨g, k, none⟩ = some (.int .i64 v) := (cellB hg.2).trans hv
          go_simp
          exact hK _ _ ⟨_, _, _, _, _, _, _, _, _, _, _, _, _, _, _, _, _, _, _, _, _, rfl, ⟨(fun h => J.f0 (un h)), (fun h => J.f1 (un h)), (fun h => J.f2 (un h)), (fun h => J.f3 (un h)), (fun h => J.f4 (un h)), (fun h => J.f5 (un h)), (fun h => J.f6 (un h)), (fun h h2 => J.f7 (un h) (by rwa [upd_ne rfl] at h2)), (fun h => J.f8 (un h)), (fun h => J.f9 (un h)), (fun h h2 => J.f10 (un h) (by rwa [upd_ne rfl] at h2)), (fun _ => ⟨v, rfl⟩), (fun h => J.f12 (un h)), (fun h h2 => J.f13 (un h) (by rwa [upd_ne rfl] at h2)), (fun h => J.f14 (un h)), (fun h => J.f15 (un h)), (fun h h2 => J.f16 (un h) (by rwa [upd_ne rfl] at h2)), (fun h => J.f17 (un h)), (fun h h2 => J.f18 (un h) (by rwa [upd_ne rfl] at h2)), (fun h => J.f20 (un h)), (by rw [colRCnt_same (by decide)]; exact J.rd), (J.bk), (J.fr), (fun h => J.own (un h)), (fun h => by rw [upd_ne rfl, hT] at h; cases h), (fun h => J.tb0 (un h)), (fun h => by rw [upd_ne rfl, hLast] at h; cases h)⟩⟩
        · skip
          have hLast : L 21 = false := hcl 21 12 (by kernel_rfl) hLi
          have hT : L 19 = false := (hcl 19 18 (by kernel_rfl) (hcl 18 17 (by kernel_rfl) (hcl 17 16 (by kernel_rfl) (hcl 16 13 (by kernel_rfl) (hcl 13 12 (by kernel_rfl) hLi)))))
          obtain ⟨v, rfl⟩ := J.f11 (haft ⟨11, .data⟩ (by simp) rfl)
          go_simp
          exact hK _ _ ⟨_, _, _, _, _, _, _, _, _, _, _, _, _, _, _, _, _, _, _, _, _, rfl, ⟨(fun h => J.f0 (un h)), (fun h => J.f1 (un h)), (fun h => J.f2 (un h)), (fun h => J.f3 (un h)), (fun h => J.f4 (un h)), (fun h => J.f5 (un h)), (fun h => J.f6 (un h)), (fun h h2 => J.f7 (un h) (by rwa [upd_ne rfl] at h2)), (fun h => J.f8 (un h)), (fun h => J.f9 (un h)), (fun h h2 => J.f10 (un h) (by rwa [upd_ne rfl] at h2)), (fun h => J.f11 (un h)), (fun _ => ⟨v, rfl⟩), (fun h h2 => J.f13 (un h) (by rwa [upd_ne rfl] at h2)), (fun h => J.f14 (un h)), (fun h => J.f15 (un h)), (fun h h2 => J.f16 (un h) (by rwa [upd_ne rfl] at h2)), (fun h => J.f17 (un h)), (fun h h2 => J.f18 (un h) (by rwa [upd_ne rfl] at h2)), (fun h => J.f20 (un h)), (by rw [colRCnt_same (by decide)]; exact J.rd), (J.bk), (J.fr), (fun h => J.own (un h)), (fun h => by rw [upd_ne rfl, hT] at h; cases h), (fun h => J.tb0 (un h)), (fun h => by rw [upd_ne rfl, hLast] at h; cases h)⟩⟩
        · skip
          have hLast : L 21 = false := hcl 21 13 (by kernel_rfl) hLi
          have hT : L 19 = false := (hcl 19 18 (by kernel_rfl) (hcl 18 17 (by kernel_rfl) (hcl 17 16 (by kernel_rfl) (hcl 16 13 (by kernel_rfl) hLi))))
          have hsz := J.bk.size
          obtain rfl := J.f2 (haft ⟨2, .data⟩ (by simp) rfl)
          obtain rfl := J.f3 (haft ⟨3, .data⟩ (by simp) rfl)
          obtain ⟨a, rfl⟩ := J.f6 (haft ⟨6, .data⟩ (by simp) rfl)
          obtain ⟨b, rfl⟩ := J.f12 (haft ⟨12, .data⟩ (by simp) rfl)
          go_simp
          exact hK _ _ ⟨_, _, _, _, _, _, _, _, _, _, _, _, _, _, _, _, _, _, _, _, _, rfl, ⟨(fun h => J.f0 (un h)), (fun h => J.f1 (un h)), (fun h => J.f2 (un h)), (fun h => J.f3 (un h)), (fun h => J.f4 (un h)), (fun h => J.f5 (un h)), (fun h => J.f6 (un h)), (fun h h2 => (J.f7 (un h) (by rwa [upd_ne rfl] at h2)).bk hlt (bk_alloc r W _)), (fun h => J.f8 (un h)), (fun h => J.f9 (un h)), (fun h h2 => (J.f10 (un h) (by rwa [upd_ne rfl] at h2)).bk hlt (bk_alloc r W _)), (fun h => J.f11 (un h)), (fun h => J.f12 (un h)), (fun _ _ => ⟨W.heap.size, _, rfl, Hp.new hsz _, a, b, rfl⟩), (fun h => J.f14 (un h)), (fun h => J.f15 (un h)), (fun h h2 => (J.f16 (un h) (by rwa [upd_ne rfl] at h2)).bk hlt (bk_alloc r W _)), (fun h => J.f17 (un h)), (fun h h2 => (J.f18 (un h) (by rwa [upd_ne rfl] at h2)).bk hlt (bk_alloc r W _)), (fun h => J.f20 (un h)), (by rw [colRCnt_same (by decide)]; exact J.rd.alloc _), (J.bk.alloc _), (hF _ _ J.fr (Off.bk (bk_alloc r W _) hlt)), (fun h => row_bk (J.own (un h)) (bk_alloc r W _) hlt), (fun h => by rw [upd_ne rfl, hT] at h; cases h), (fun h => (Below.heap_alloc _ _ _ (Array.getElem?_eq_some_iff.1 (J.tb0 (un h))).1).trans (J.tb0 (un h))), (fun h => by rw [upd_ne rfl, hLast] at h; cases h)⟩⟩
        · skip
          have hLast : L 21 = false := hcl 21 14 (by kernel_rfl) hLi
          have hT : L 19 = false := (hcl 19 18 (by kernel_rfl) (hcl 18 17 (by kernel_rfl) (hcl 17 16 (by kernel_rfl) (hcl 16 15 (by kernel_rfl) (hcl 15 14 (by kernel_rfl) hLi)))))
          go_simp
          exact hK _ _ ⟨_, _, _, _, _, _, _, _, _, _, _, _, _, _, _, _, _, _, _, _, _, rfl, ⟨(fun h => J.f0 (un h)), (fun h => J.f1 (un h)), (fun h => J.f2 (un h)), (fun h => J.f3 (un h)), (fun h => J.f4 (un h)), (fun h => J.f5 (un h)), (fun h => J.f6 (un h)), (fun h h2 => J.f7 (un h) (by rwa [upd_ne rfl] at h2)), (fun h => J.f8 (un h)), (fun h => J.f9 (un h)), (fun h h2 => J.f10 (un h) (by rwa [upd_ne rfl] at h2)), (fun h => J.f11 (un h)), (fun h => J.f12 (un h)), (fun h h2 => J.f13 (un h) (by rwa [upd_ne rfl] at h2)), (fun _ => rfl), (fun h => J.f15 (un h)), (fun h h2 => J.f16 (un h) (by rwa [upd_ne rfl] at h2)), (fun h => J.f17 (un h)), (fun h h2 => J.f18 (un h) (by rwa [upd_ne rfl] at h2)), (fun h => J.f20 (un h)), (by rw [colRCnt_same (by decide)]; exact J.rd), (J.bk), (J.fr), (fun h => J.own (un h)), (fun h => by rw [upd_ne rfl, hT] at h; cases h), (fun h => J.tb0 (un h)), (fun h => by rw [upd_ne rfl, hLast] at h; cases h)⟩⟩
        · skip
          have hLast : L 21 = false := hcl 21 15 (by kernel_rfl) hLi
          have hT : L 19 = false := (hcl 19 18 (by kernel_rfl) (hcl 18 17 (by kernel_rfl) (hcl 17 16 (by kernel_rfl) (hcl 16 15 (by kernel_rfl) hLi))))
          obtain rfl := J.f14 (haft ⟨14, .data⟩ (by simp) rfl)
          go_simp
          go_wp2_with (go_at_call 38; refine (pick_any r _ _ _ J.rd (by have := colRCnt_le L; omega)).mono ?_; rintro e W2 ⟨k, rfl, hk, hR, hb⟩)
          have hk2 := hk (by omega)
          exact ⟨_, _, _, _, _, _, _, _, _, _, _, _, _, _, _, _, _, _, _, _, _, rfl, ⟨(fun h => J.f0 (un h)), (fun h => J.f1 (un h)), (fun h => J.f2 (un h)), (fun h => J.f3 (un h)), (fun h => J.f4 (un h)), (fun h => J.f5 (un h)), (fun h => J.f6 (un h)), (fun h h2 => (J.f7 (un h) (by rwa [upd_ne rfl] at h2)).bk hlt hb), (fun h => J.f8 (un h)), (fun h => J.f9 (un h)), (fun h h2 => (J.f10 (un h) (by rwa [upd_ne rfl] at h2)).bk hlt hb), (fun h => J.f11 (un h)), (fun h => J.f12 (un h)), (fun h h2 => (J.f13 (un h) (by rwa [upd_ne rfl] at h2)).bk hlt hb), (fun h => J.f14 (un h)), (fun _ => ⟨k, rfl, by omega, by omega⟩), (fun h h2 => (J.f16 (un h) (by rwa [upd_ne rfl] at h2)).bk hlt hb), (fun h => J.f17 (un h)), (fun h h2 => (J.f18 (un h) (by rwa [upd_ne rfl] at h2)).bk hlt hb), (fun h => J.f20 (un h)), (by rw [colRCnt_15 hLi, ← Nat.add_assoc]; exact hR), (J.bk.trans hb), (hF _ _ J.fr (Off.bk hb hlt)), (fun h => row_bk (J.own (un h)) hb hlt), (fun h => by rw [upd_ne rfl, hT] at h; cases h), (fun h => (hb.block w1.heap.size (Array.getElem?_eq_some_iff.1 (J.tb0 (un h))).1 htb).trans (J.tb0 (un h))), (fun h => by rw [upd_ne rfl, hLast] at h; cases h)⟩⟩
        · skip
          have hLast : L 21 = false := hcl 21 16 (by kernel_rfl) hLi
          have hT : L 19 = false := (hcl 19 18 (by kernel_rfl) (hcl 18 17 (by kernel_rfl) (hcl 17 16 (by kernel_rfl) hLi)))
          obtain ⟨g, arr, rfl, hg, a, b, rfl⟩ := J.f13 (haft ⟨13, .data⟩ (by simp) rfl) hT
          obtain ⟨k, rfl, k0, k1⟩ := J.f15 (haft ⟨15, .data⟩ (by simp) rfl)
          have k2 : k < 4 := by omega
          have hv := pair4 a b k k0 k2
          go_simp
          exact hK _ _ ⟨_, _, _, _, _, _, _, _, _, _, _, _, _, _, _, _, _, _, _, _, _, rfl, ⟨(fun h => J.f0 (un h)), (fun h => J.f1 (un h)), (fun h => J.f2 (un h)), (fun h => J.f3 (un h)), (fun h => J.f4 (un h)), (fun h => J.f5 (un h)), (fun h => J.f6 (un h)), (fun h h2 => J.f7 (un h) (by rwa [upd_ne rfl] at h2)), (fun h => J.f8 (un h)), (fun h => J.f9 (un h)), (fun h h2 => J.f10 (un h) (by rwa [upd_ne rfl] at h2)), (fun h => J.f11 (un h)), (fun h => J.f12 (un h)), (fun h h2 => J.f13 (un h) (by rwa [upd_ne rfl] at h2)), (fun h => J.f14 (un h)), (fun h => J.f15 (un h)), (fun _ _ => ⟨g, _, _, rfl, hg, hv⟩), (fun h => J.f17 (un h)), (fun h h2 => J.f18 (un h) (by rwa [upd_ne rfl] at h2)), (fun h => J.f20 (un h)), (by rw [colRCnt_same (by decide)]; exact J.rd), (J.bk), (J.fr), (fun h => J.own (un h)), (fun h => by rw [upd_ne rfl, hT] at h; cases h), (fun h => J.tb0 (un h)), (fun h => by rw [upd_ne rfl, hLast] at h; cases h)⟩⟩
        · skip
          have hLast : L 21 = false := hcl 21 17 (by kernel_rfl) hLi
          have hT : L 19 = false := (hcl 19 18 (by kernel_rfl) (hcl 18 17 (by kernel_rfl) hLi))
          obtain ⟨g, k, arr, rfl, hg, x, y, hx, hy⟩ := J.f16 (haft ⟨16, .data⟩ (by simp) rfl) hT
          have hc : W.cell? ⟨g, k, none⟩ = some (.int .i64 x) := (cellB hg.2).trans hx
          have hd : W.cell? ⟨g, k + 1, none⟩ = some (.int .i64 y) := (cellB hg.2).trans hy
          go_simp
          exact hK _ _ ⟨_, _, _, _, _, _, _, _, _, _, _, _, _, _, _, _, _, _, _, _, _, rfl, ⟨(fun h => J.f0 (un h)), (fun h => J.f1 (un h)), (fun h => J.f2 (un h)), (fun h => J.f3 (un h)), (fun h => J.f4 (un h)), (fun h => J.f5 (un h)), (fun h => J.f6 (un h)), (fun h h2 => J.f7 (un h) (by rwa [upd_ne rfl] at h2)), (fun h => J.f8 (un h)), (fun h => J.f9 (un h)), (fun h h2 => J.f10 (un h) (by rwa [upd_ne rfl] at h2)), (fun h => J.f11 (un h)), (fun h => J.f12 (un h)), (fun h h2 => J.f13 (un h) (by rwa [upd_ne rfl] at h2)), (fun h => J.f14 (un h)), (fun h => J.f15 (un h)), (fun h h2 => J.f16 (un h) (by rwa [upd_ne rfl] at h2)), (fun _ => ⟨x, y, rfl⟩), (fun h h2 => J.f18 (un h) (by rwa [upd_ne rfl] at h2)), (fun h => J.f20 (un h)), (by rw [colRCnt_same (by decide)]; exact J.rd), (J.bk), (J.fr), (fun h => J.own (un h)), (fun h => by rw [upd_ne rfl, hT] at h; cases h), (fun h => J.tb0 (un h)), (fun h => by rw [upd_ne rfl, hLast] at h; cases h)⟩⟩
        · skip
          have hLast : L 21 = false := hcl 21 18 (by kernel_rfl) hLi
          have hT : L 19 = false := (hcl 19 18 (by kernel_rfl) hLi)
          have hsz := J.bk.size
          obtain ⟨x, y, rfl⟩ := J.f17 (haft ⟨17, .data⟩ (by simp) rfl)
          go_simp
          exact hK _ _ ⟨_, _, _, _, _, _, _, _, _, _, _, _, _, _, _, _, _, _, _, _, _, rfl, ⟨(fun h => J.f0 (un h)), (fun h => J.f1 (un h)), (fun h => J.f2 (un h)), (fun h => J.f3 (un h)), (fun h => J.f4 (un h)), (fun h => J.f5 (un h)), (fun h => J.f6 (un h)), (fun h h2 => (J.f7 (un h) (by rwa [upd_ne rfl] at h2)).bk hlt (bk_alloc r W _)), (fun h => J.f8 (un h)), (fun h => J.f9 (un h)), (fun h h2 => (J.f10 (un h) (by rwa [upd_ne rfl] at h2)).bk hlt (bk_alloc r W _)), (fun h => J.f11 (un h)), (fun h => J.f12 (un h)), (fun h h2 => (J.f13 (un h) (by rwa [upd_ne rfl] at h2)).bk hlt (bk_alloc r W _)), (fun h => J.f14 (un h)), (fun h => J.f15 (un h)), (fun h h2 => (J.f16 (un h) (by rwa [upd_ne rfl] at h2)).bk hlt (bk_alloc r W _)), (fun h => J.f17 (un h)), (fun _ _ => ⟨W.heap.size, _, rfl, Hp.new hsz _, x, y, rfl⟩), (fun h => J.f20 (un h)), (by rw [colRCnt_same (by decide)]; exact J.rd.alloc _), (J.bk.alloc _), (hF _ _ J.fr (Off.bk (bk_alloc r W _) hlt)), (fun h => row_bk (J.own (un h)) (bk_alloc r W _) hlt), (fun h => by rw [upd_ne rfl, hT] at h; cases h), (fun h => (Below.heap_alloc _ _ _ (Array.getElem?_eq_some_iff.1 (J.tb0 (un h))).1).trans (J.tb0 (un h))), (fun h => by rw [upd_ne rfl, hLast] at h; cases h)⟩⟩
        · skip
          have hLast : L 21 = false := hcl 21 19 (by kernel_rfl) hLi
          have hT : L 19 = false := hLi
          obtain rfl := J.f1 (haft ⟨1, .data⟩ (by simp) rfl)
          obtain ⟨g, arr, rfl, hg, x, y, rfl⟩ := J.f18 (haft ⟨18, .data⟩ (by simp) rfl) hT
          rw [if_pos (by rfl)]
          refine wp_append_own _ _ _ 34 rfl w.heap.size 76 i0 _ 2 16 Try.underlying34 hi0 hz0 hz1 hz2 rfl (by decide) _ ps.length (ps.flatMap colVs) rfl (J.own hT) ⟨g, 0, none⟩ 1 1 [.int .i64 x, .int .i64 y] rfl rfl (news_at hg.2) (by simp [Value.oneCell']) (by unfold maxLen; omega) (by omega) (by have := J.bk.size; omega) ?_
          intro v' W2 hown2 hg2 _
          exact hK _ _ ⟨_, _, _, _, _, _, _, _, _, _, _, _, _, _, _, _, _, _, _, _, _, rfl, ⟨(fun h => J.f0 (un h)), (fun h => J.f1 (un h)), (fun h => J.f2 (un h)), (fun h => J.f3 (un h)), (fun h => J.f4 (un h)), (fun h => J.f5 (un h)), (fun h => J.f6 (un h)), (fun _ h2 => by rw [upd_self] at h2; cases h2), (fun h => J.f8 (un h)), (fun h => J.f9 (un h)), (fun _ h2 => by rw [upd_self] at h2; cases h2), (fun h => J.f11 (un h)), (fun h => J.f12 (un h)), (fun _ h2 => by rw [upd_self] at h2; cases h2), (fun h => J.f14 (un h)), (fun h => J.f15 (un h)), (fun _ h2 => by rw [upd_self] at h2; cases h2), (fun h => J.f17 (un h)), (fun _ h2 => by rw [upd_self] at h2; cases h2), (fun h => J.f20 (un h)), (by rw [colRCnt_same (by decide)]; exact J.rd.grown hg2 hUr), (J.bk.grown hg2 hUn), (hF _ _ J.fr (Off.grown hg2)), (fun h => by rw [upd_self] at h; cases h), (fun _ => ⟨_, ⟨(x, y), rfl⟩, hown2⟩), (fun h => blk_grown (J.tb0 (un h)) hg2 (ne_of_own (row_ne_block (J.own hT) (J.tb0 hLast) (by decide)))), (fun h => by rw [upd_ne rfl, hLast] at h; cases h)⟩⟩
        · skip
          have hLast : L 21 = false := hcl 21 20 (by kernel_rfl) hLi
          go_simp
          exact hK _ _ ⟨_, _, _, _, _, _, _, _, _, _, _, _, _, _, _, _, _, _, _, _, _, rfl, ⟨(fun h => J.f0 (un h)), (fun h => J.f1 (un h)), (fun h => J.f2 (un h)), (fun h => J.f3 (un h)), (fun h => J.f4 (un h)), (fun h => J.f5 (un h)), (fun h => J.f6 (un h)), (fun h h2 => J.f7 (un h) (by rwa [upd_ne rfl] at h2)), (fun h => J.f8 (un h)), (fun h => J.f9 (un h)), (fun h h2 => J.f10 (un h) (by rwa [upd_ne rfl] at h2)), (fun h => J.f11 (un h)), (fun h => J.f12 (un h)), (fun h h2 => J.f13 (un h) (by rwa [upd_ne rfl] at h2)), (fun h => J.f14 (un h)), (fun h => J.f15 (un h)), (fun h h2 => J.f16 (un h) (by rwa [upd_ne rfl] at h2)), (fun h => J.f17 (un h)), (fun h h2 => J.f18 (un h) (by rwa [upd_ne rfl] at h2)), (fun _ => rfl), (by rw [colRCnt_same (by decide)]; exact J.rd), (J.bk), (J.fr), (fun h => J.own (un h)), (fun h => J.ownA (un h)), (fun h => J.tb0 (un h)), (fun h => by rw [upd_ne rfl, hLast] at h; cases h)⟩⟩
        · skip
          have hLast : L 21 = false := hLi
          have hTop : L 19 = true := (haft ⟨19, .data⟩ (by simp) rfl)
          obtain ⟨_, _, hO⟩ := J.ownA hTop
          obtain ⟨aa, cc, rfl, _⟩ := row_form hO
          clear hO
          obtain rfl := J.f20 (haft ⟨20, .data⟩ (by simp) rfl)
          have hc := (cellB (p := 0) (J.tb0 hLast)).trans rfl
          have hf : W.frozen? ⟨w1.heap.size, 0, none⟩ = false := freeB (J.tb0 hLast)
          go_simp
          exact hK _ _ ⟨_, _, _, _, _, _, _, _, _, _, _, _, _, _, _, _, _, _, _, _, _, rfl, ⟨(fun h => J.f0 (un h)), (fun h => J.f1 (un h)), (fun h => J.f2 (un h)), (fun h => J.f3 (un h)), (fun h => J.f4 (un h)), (fun h => J.f5 (un h)), (fun h => J.f6 (un h)), (fun _ h2 => by rw [upd_ne rfl, hTop] at h2; cases h2), (fun h => J.f8 (un h)), (fun h => J.f9 (un h)), (fun _ h2 => by rw [upd_ne rfl, hTop] at h2; cases h2), (fun h => J.f11 (un h)), (fun h => J.f12 (un h)), (fun _ h2 => by rw [upd_ne rfl, hTop] at h2; cases h2), (fun h => J.f14 (un h)), (fun h => J.f15 (un h)), (fun _ h2 => by rw [upd_ne rfl, hTop] at h2; cases h2), (fun h => J.f17 (un h)), (fun _ h2 => by rw [upd_ne rfl, hTop] at h2; cases h2), (fun h => J.f20 (un h)), (by rw [colRCnt_same (by decide)]; exact J.rd.set (p := ⟨w1.heap.size, 0, none⟩) htr (.slice aa (ps.length + 1) cc)), (J.bk.set (p := ⟨w1.heap.size, 0, none⟩) (.inr htn) (.slice aa (ps.length + 1) cc)), (hF _ _ J.fr (Off.set W ⟨w1.heap.size, 0, none⟩ rfl (.slice aa (ps.length + 1) cc))), (fun h => by rw [upd_ne rfl, hTop] at h; cases h), (fun _ => by obtain ⟨nw, h1, h2⟩ := J.ownA hTop; exact ⟨nw, h1, row_set (p := 0) h2 (J.tb0 hLast) (by decide) (.slice aa (ps.length + 1) cc)⟩), (fun h => by rw [upd_self] at h; cases h), (fun _ => setB (J.tb0 hLast) (.slice aa (ps.length + 1) cc))⟩⟩
      case hd =>
        rename_i K0 hK0
        intro L a W hJ hall
        obtain ⟨v18, v19, v20, v21, v22, v23, v24, v25, v26, v27, v28, v29, v30, v31, v32, v33, v34, v35, v36, v37, v38, ha, J⟩ := hJ
        dsimp only at ha
        subst ha
        have hTop := J.ownA (hall 19 (by simp))
        have hT1 : W.heap[w1.heap.size]? = some (.cells #[v37, .int .i64 0, .int .i64 0, .slice none 0 0, .int .i64 gp] 37) := J.tb1 (hall 21 (by simp))
        obtain ⟨_, ⟨p, rfl⟩, hO1⟩ := hTop
        have HT1 := Hid.intro hT1
        have HO1 : Hid (OwnCol W w.heap.size v37 (ps ++ [p])) := by
          show W.ownsRow _ _ _ _ _ _
          rw [List.length_append, List.flatMap_append]
          simpa using hO1
        have HR1 : Hid (Rd W r (B + 2 + 3 * (ps ++ [p]).length)) := J.rd.mono (by have := colRCnt_le L; rw [List.length_append]; simp; omega)
        have HB1 := Hid.intro J.bk
        have HX1 := Hid.intro J.fr
        clear J hall hO1 hT1 hRd hBk hTb hOwn hF hFr
        refine hK0 _ _ ?_
        clear hK0
        go_wp2
        go_roundw
        case rel => exact ⟨m - 1, v37, ps ++ [p], by go_num, by rw [List.length_append]; simp; omega, HT1, HO1, HR1, HB1, HX1⟩
        case measure => simp [intOf]; omega
    · obtain rfl : m = 0 := by omega
      clear hm0
      go_wp2_with fail
      refine (pick_any _ _ _ _ HRd.out (by omega)).mono ?_
      rintro e w3 ⟨k3, rfl, hk3, hR3, hb3⟩
      obtain ⟨k31, k32⟩ := hk3 (by omega)
      obtain ⟨N0, rfl⟩ := Int.eq_ofNat_of_zero_le k31
      have T3 := Hid.intro ((hb3.block w1.heap.size (Array.getElem?_eq_some_iff.1 HT.out).1 htb).trans HT.out)
      have X3 := Hid.intro ((hb3.block w.heap.size (Array.getElem?_eq_some_iff.1 HX.out).1 (by omega)).trans HX.out)
      have O3 : Hid (OwnCol w3 w.heap.size vc ps) := row_bk HO.out hb3 hlt
      have R3 : Hid (Rd w3 r (B + 18)) := hR3.mono (by omega)
      have K3 := Hid.intro (HBk.out.trans hb3)
      clear hk3 k31 hR3 hb3 HT HO HRd HBk HX T2 X2 R2 K2
      go_wp2_with fail
      go_loopw [6, 7, 8] (fun k _ _ W => ∃ (j : Nat) (vr : Value) (ur : List (Value × R)), k = .int .i64 j ∧ j ≤ N0 + 1 ∧ ur.length = j ∧ Hid (∀ p ∈ ur, p.2.cells.length ≤ 4 ∧ ∀ x ∈ p.2.cells, Cx x) ∧ Hid (W.heap[w1.heap.size]? = some (.cells #[vc, .int .i64 0, .int .i64 0, vr, .int .i64 gp] 37)) ∧ Hid (OwnCol W w.heap.size vc ps) ∧ Hid (OwnR W w.heap.size vr ur) ∧ Hid (Rd W r (B + 18 + 210 * j)) ∧ Hid (Bk r w W) ∧ Hid (W.heap[w.heap.size]? = some (.cells #[.slice none 0 0, .int .i64 0, .int .i64 0, .slice none 0 0, .int .i64 0] 37))) (fun k _ _ _ => N0 + 1 - (intOf k).toNat)
      case atStart => exact ⟨0, .slice none 0 0, [], rfl, by omega, rfl, fun p hp => (by cases hp), T3.out, O3.out, ⟨⟨rfl, .inl ⟨rfl, rfl⟩⟩, fun p hp => (by cases hp), List.Pairwise.nil⟩, R3.out, K3.out, X3.out⟩
      case round =>
        obtain ⟨j, vr, ur, rfl, hj, hlen, HS, HT, HO, HW, HRd, HBk, HX⟩ := hrel
        subst hlen
        by_cases hj0 : ur.length < N0 + 1
        · have hj' : (ur.length : Int) < 1 + (N0 : Int) := by omega
          go_wp2_with fail
          refine (pick_any _ _ _ _ HRd.out (by omega)).mono ?_
          rintro e w4 ⟨k4, rfl, _, hR4, hb4⟩
          have T4 := (hb4.block w1.heap.size (Array.getElem?_eq_some_iff.1 HT.out).1 htb).trans HT.out
          have X4 := (hb4.block w.heap.size (Array.getElem?_eq_some_iff.1 HX.out).1 (by omega)).trans HX.out
          have O4 : OwnCol w4 w.heap.size vc ps := row_bk HO.out hb4 hlt
          have W4 : OwnR w4 w.heap.size vr ur := HW.out.bk hb4 hlt
          have K4 := HBk.out.trans hb4
          go_wp2_with fail
          refine (pick_any _ _ _ _ (hR4.alloc _) (by omega)).mono ?_
          rintro e w5 ⟨k5, rfl, hk5, hR5, hb5⟩
          obtain ⟨k51, k52⟩ := hk5 (by omega)
          obtain ⟨Q0, rfl⟩ := Int.eq_ofNat_of_zero_le k51
          have hz4 : w1.heap.size < w4.heap.size := (Array.getElem?_eq_some_iff.1 T4).1
          have hbb := (bk_alloc r w4 (.cells #[.slice none 0 0, .bool (k4 == 0)] 51)).trans hb5
          have Y5 := Hid.intro ((hb5.block w4.heap.size (by simp) (by omega)).trans (newestB _ _))
          have F5 : Hid (FT w w1.heap.size vc vr gp ps ur w5) := ⟨(hbb.block w1.heap.size (by omega) htb).trans T4, row_bk O4 hbb hlt, W4.bk hbb hlt, (hbb.block w.heap.size (by omega) (by omega)).trans X4⟩
          have R5 : Hid (Rd w5 r (B + 18 + 210 * ur.length + 2)) := hR5
          have K5 := Hid.intro (K4.trans hbb)
          have hzw := hz1
          have hcl : ∀ b, vc.ownBlock = some b → b < w4.heap.size := fun b hb => (row_lt O4 hb).2
          have hrl : ∀ b, vr.ownBlock = some b → b < w4.heap.size := fun b hb => (row_lt W4.own hb).2
          have hul : ∀ p ∈ ur, ∀ b, p.1.ownBlock = some b → b < w4.heap.size := fun p hp b hb => (row_lt (W4.cells p hp) hb).2
          clear hk5 k51 hR5 hb5 hR4 hb4 hbb T4 X4 O4 W4 K4 HT HO HW HRd HBk HX
          generalize (k4 == 0) = b4 at Y5 ⊢
          go_wp2_with fail
          go_loopw [8] (fun i W => ∃ (q : Nat) (u : Value) (cs : List C), i = .int .i64 q ∧ q + cs.length ≤ 4 ∧ Hid (∀ x ∈ cs, Cx x) ∧ Hid (W.heap[w4.heap.size]? = some (.cells #[u, .bool b4] 51)) ∧ Hid (OwnC W w4.heap.size u cs) ∧ Hid (Rd W r (B + 18 + 210 * ur.length + 2 + 50 * cs.length)) ∧ Hid (Bk r w W) ∧ Hid (FT w w1.heap.size vc vr gp ps ur W)) (fun i _ => (intOf i).toNat)
          case atStart => exact ⟨Q0, .slice none 0 0, [], rfl, by simp; omega, fun x hx => (by cases hx), Y5.out, ⟨rfl, .inl ⟨rfl, rfl⟩⟩, R5.out, K5.out, F5.out⟩
          case round =>
            obtain ⟨q, u, cs, rfl, hq, HC, HY, HU, HRd, HBk, HF⟩ := hrel
            by_cases hq0 : 0 < q
            · have hq' : (0 : Int) < (q : Int) := by omega
              go_wp2_with fail
              obtain ⟨i0, hi0, hz0, hz1, hz2⟩ := info_parts infoCell
              have hnn : cs.length ≤ 4 := by omega
              have hRd := HRd.out
              have hBk := HBk.out
              have hTb := HY.out
              have hOwn := HU.out
              have htr : r < w4.heap.size := by omega
              have htn : w.heap.size ≤ w4.heap.size := by omega
              have htb : w4.heap.size ≠ r := by omega
              have hUs : ∀ i, u.ownBlock = some i → w4.heap.size ≤ i := fun i hi => (row_lt hOwn hi).1
              have hUn : ∀ i, u.ownBlock = some i → w.heap.size ≤ i := fun i hi => by have := hUs i hi; omega
              have hUr : ∀ i, u.ownBlock = some i → r < i := fun i hi => by have := hUn i hi; omega
              have hF : Stays w.heap.size w4.heap.size u (FT w w1.heap.size vc vr gp ps ur) := FT.stays hzw hz4 (Nat.le_refl _) hUs hcl hrl hul
              have hFr := HF.out
              clear HY HU HRd HBk HF
              refine wp_region_inv2 (rowR r (B + 18 + 210 * ur.length + 2 + 50 * cs.length) w.heap.size w (FT w w1.heap.size vc vr gp ps ur) w4.heap.size u cs.length (cs.flatMap cellVs) w4.heap.size #[u, .bool b4] (fun v57 v58 v59 v60 v61 v62 v63 => ⟨#[.pointer (some ⟨r, 0, none⟩), undef, .pointer (some ⟨w.heap.size, 0, none⟩), .pointer (some ⟨w1.heap.size, 0, none⟩), .int .i64 0, .int .i64 (1 + (N0 : Int)), .int .i64 (ur.length : Int), .pointer (some ⟨w4.heap.size, 0, none⟩), .int .i64 (q : Int), .pointer (some ⟨r, 0, none⟩), .int .i64 gp, .agg #[.slice none 0 0, .int .i64 0, .int .i64 0, .slice none 0 0, .int .i64 gp], .pointer (some ⟨r, 0, none⟩), .int .i64 (M : Int), .int .i64 0, .bool false, u16, u17, u18, u19, u20, u21, u22, u23, u24, u25, u26, u27, u28, u29, u30, u31, u32, u33, u34, u35, u36, u37, u38, .pointer (some ⟨r, 0, none⟩), .int .i64 (N0 : Int), .int .i64 (1 + (N0 : Int)), .int .i64 (ur.length : Int), .int .i64 (1 + (N0 : Int)), .bool true, u45, u46, .pointer (some ⟨r, 0, none⟩), .int .i64 k4, .bool b4, .agg #[.slice none 0 0, .bool b4], .pointer (some ⟨r, 0, none⟩), .int .i64 (Q0 : Int), .int .i64 (q : Int), .bool true, u55, u56, v57, v58, v59, v60, v61, v62, v63, u64, u65, u66, u67, u68, u69, undef, undef, undef, undef, undef, undef, undef, undef, undef, undef, undef, undef, undef, undef, undef, undef, undef, undef, undef, undef, undef, undef, undef, undef], []⟩)) (by kernel_rfl) (by kernel_rfl) ?hs ?hd ?h0
              case h0 =>
                exact ⟨_, _, _, _, _, _, _, rfl, ⟨(fun h => by cases h), (fun h => by cases h), (fun h => by cases h), (fun h => by cases h), (fun h _ => by cases h), (fun h => by cases h), hRd.drew, hBk.drew, hF _ _ hFr (Off.bk ((Bk.refl r _).drew) hlt), (fun _ => hOwn), (fun h => by cases h), (fun _ => hTb), (fun h => by cases h)⟩⟩
              case hs =>
                rename_i K0 hK0
                clear hK0
                intro L a W i o hJ hcl ho hLi haft K hK
                obtain ⟨v57, v58, v59, v60, v61, v62, v63, ha, J⟩ := hJ
                dsimp only at ha
                subst ha
                have hi : i < 8 := by
                  have := (Array.getElem?_eq_some_iff.1 ho).1
                  simpa using this
                rcases (by omega : i = 0 ∨ i = 1 ∨ i = 2 ∨ i = 3 ∨ i = 4 ∨ i = 5 ∨ i = 6 ∨ i = 7) with rfl | rfl | rfl | rfl | rfl | rfl | rfl | rfl
                all_goals
                  simp only [List.getElem?_toArray, List.getElem?_cons_zero, List.getElem?_cons_succ, Option.some.injEq] at ho
                  subst ho
                  clear hi
                · skip
                  have hLast : L 7 = false := hcl 7 0 (by kernel_rfl) hLi
                  have hT : L 5 = false := (hcl 5 1 (by kernel_rfl) (hcl 1 0 (by kernel_rfl) hLi))
                  go_simp
                  exact hK _ _ ⟨_, _, _, _, _, _, _, rfl, ⟨(fun _ => rfl), (fun h => J.f1 (un h)), (fun h => J.f2 (un h)), (fun h => J.f3 (un h)), (fun h h2 => J.f4 (un h) (by rwa [upd_ne rfl] at h2)), (fun h => J.f6 (un h)), (by rw [rowRCnt_same (by decide)]; exact J.rd), (J.bk), (J.fr), (fun h => J.own (un h)), (fun h => by rw [upd_ne rfl, hT] at h; cases h), (fun h => J.tb0 (un h)), (fun h => by rw [upd_ne rfl, hLast] at h; cases h)⟩⟩
                · skip
                  have hLast : L 7 = false := hcl 7 1 (by kernel_rfl) hLi
                  have hT : L 5 = false := (hcl 5 1 (by kernel_rfl) hLi)
                  obtain rfl := J.f0 (haft ⟨0, .data⟩ (by simp) rfl)
                  have hc : W.cell? ⟨w4.heap.size, 0, none⟩ = some u := (cellB (J.tb0 hLast)).trans rfl
                  go_simp
                  exact hK _ _ ⟨_, _, _, _, _, _, _, rfl, ⟨(fun h => J.f0 (un h)), (fun _ => rfl), (fun h => J.f2 (un h)), (fun h => J.f3 (un h)), (fun h h2 => J.f4 (un h) (by rwa [upd_ne rfl] at h2)), (fun h => J.f6 (un h)), (by rw [rowRCnt_same (by decide)]; exact J.rd), (J.bk), (J.fr), (fun h => J.own (un h)), (fun h => by rw [upd_ne rfl, hT] at h; cases h), (fun h => J.tb0 (un h)), (fun h => by rw [upd_ne rfl, hLast] at h; cases h)⟩⟩
                · skip
                  have hLast : L 7 = false := hcl 7 2 (by kernel_rfl) hLi
                  have hT : L 5 = false := (hcl 5 4 (by kernel_rfl) (hcl 4 3 (by kernel_rfl) (hcl 3 2 (by kernel_rfl) hLi)))
                  go_simp
                  exact hK _ _ ⟨_, _, _, _, _, _, _, rfl, ⟨(fun h => J.f0 (un h)), (fun h => J.f1 (un h)), (fun _ => rfl), (fun h => J.f3 (un h)), (fun h h2 => J.f4 (un h) (by rwa [upd_ne rfl] at h2)), (fun h => J.f6 (un h)), (by rw [rowRCnt_same (by decide)]; exact J.rd), (J.bk), (J.fr), (fun h => J.own (un h)), (fun h => by rw [upd_ne rfl, hT] at h; cases h), (fun h => J.tb0 (un h)), (fun h => by rw [upd_ne rfl, hLast] at h; cases h)⟩⟩
                · skip
                  have hLast : L 7 = false := hcl 7 3 (by kernel_rfl) hLi
                  have hT : L 5 = false := (hcl 5 4 (by kernel_rfl) (hcl 4 3 (by kernel_rfl) hLi))
                  obtain rfl := J.f2 (haft ⟨2, .data⟩ (by simp) rfl)
                  go_simp
                  go_wp2_with (go_at_call 34; refine (l20Cell_any r _ 99999 (by omega) _ J.rd (by have := rowRCnt_le L; omega)).mono ?_; rintro e W2 ⟨x, rfl, hx1, hx2, hR, hb⟩)
                  exact ⟨_, _, _, _, _, _, _, rfl, ⟨(fun h => J.f0 (un h)), (fun h => J.f1 (un h)), (fun h => J.f2 (un h)), (fun _ => ⟨x, rfl, hx1, hx2⟩), (fun h h2 => (J.f4 (un h) (by rwa [upd_ne rfl] at h2)).bk hlt hb), (fun h => J.f6 (un h)), (by rw [rowRCnt_3 hLi, ← Nat.add_assoc]; exact hR), (J.bk.trans hb), (hF _ _ J.fr (Off.bk hb hlt)), (fun h => row_bk (J.own (un h)) hb htr), (fun h => by rw [upd_ne rfl, hT] at h; cases h), (fun h => (hb.block w4.heap.size (Array.getElem?_eq_some_iff.1 (J.tb0 (un h))).1 htb).trans (J.tb0 (un h))), (fun h => by rw [upd_ne rfl, hLast] at h; cases h)⟩⟩
                · skip
                  have hLast : L 7 = false := hcl 7 4 (by kernel_rfl) hLi
                  have hT : L 5 = false := (hcl 5 4 (by kernel_rfl) hLi)
                  have hsz := J.bk.size
                  obtain ⟨x, rfl, hx⟩ := J.f3 (haft ⟨3, .data⟩ (by simp) rfl)
                  go_simp
                  exact hK _ _ ⟨_, _, _, _, _, _, _, rfl, ⟨(fun h => J.f0 (un h)), (fun h => J.f1 (un h)), (fun h => J.f2 (un h)), (fun h => J.f3 (un h)), (fun _ _ => ⟨W.heap.size, _, rfl, Hp.new hsz _, x, rfl, hx⟩), (fun h => J.f6 (un h)), (by rw [rowRCnt_same (by decide)]; exact J.rd.alloc _), (J.bk.alloc _), (hF _ _ J.fr (Off.bk (bk_alloc r W _) hlt)), (fun h => row_bk (J.own (un h)) (bk_alloc r W _) htr), (fun h => by rw [upd_ne rfl, hT] at h; cases h), (fun h => (Below.heap_alloc _ _ _ (Array.getElem?_eq_some_iff.1 (J.tb0 (un h))).1).trans (J.tb0 (un h))), (fun h => by rw [upd_ne rfl, hLast] at h; cases h)⟩⟩
                · skip
                  have hLast : L 7 = false := hcl 7 5 (by kernel_rfl) hLi
                  have hT : L 5 = false := hLi
                  obtain rfl := J.f1 (haft ⟨1, .data⟩ (by simp) rfl)
                  obtain ⟨g, arr, rfl, hg, x, rfl, hx⟩ := J.f4 (haft ⟨4, .data⟩ (by simp) rfl) hT
                  rw [if_pos (by rfl)]
                  refine wp_append_own _ _ _ 49 rfl w4.heap.size 29 i0 _ 11 96 Try.underlying49 hi0 hz0 hz1 hz2 rfl (by decide) _ cs.length (cs.flatMap cellVs) rfl (J.own hT) ⟨g, 0, none⟩ 1 1 (cellVs x) rfl rfl (news_at hg.2) (by simp [cellVs, Value.oneCell']) (by unfold maxLen; omega) (by omega) (Nat.le_of_lt (Array.getElem?_eq_some_iff.1 (J.tb0 hLast)).1) ?_
                  intro v' W2 hown2 hg2 _
                  exact hK _ _ ⟨_, _, _, _, _, _, _, rfl, ⟨(fun h => J.f0 (un h)), (fun h => J.f1 (un h)), (fun h => J.f2 (un h)), (fun h => J.f3 (un h)), (fun _ h2 => by rw [upd_self] at h2; cases h2), (fun h => J.f6 (un h)), (by rw [rowRCnt_same (by decide)]; exact J.rd.grown hg2 hUr), (J.bk.grown hg2 hUn), (hF _ _ J.fr (Off.grown hg2)), (fun h => by rw [upd_self] at h; cases h), (fun _ => ⟨_, ⟨x, rfl, hx⟩, hown2⟩), (fun h => blk_grown (J.tb0 (un h)) hg2 (ne_of_own (row_ne_block (J.own hT) (J.tb0 hLast) (by decide)))), (fun h => by rw [upd_ne rfl, hLast] at h; cases h)⟩⟩
                · skip
                  have hLast : L 7 = false := hcl 7 6 (by kernel_rfl) hLi
                  go_simp
                  exact hK _ _ ⟨_, _, _, _, _, _, _, rfl, ⟨(fun h => J.f0 (un h)), (fun h => J.f1 (un h)), (fun h => J.f2 (un h)), (fun h => J.f3 (un h)), (fun h h2 => J.f4 (un h) (by rwa [upd_ne rfl] at h2)), (fun _ => rfl), (by rw [rowRCnt_same (by decide)]; exact J.rd), (J.bk), (J.fr), (fun h => J.own (un h)), (fun h => J.ownA (un h)), (fun h => J.tb0 (un h)), (fun h => by rw [upd_ne rfl, hLast] at h; cases h)⟩⟩
                · skip
                  have hLast : L 7 = false := hLi
                  have hTop : L 5 = true := (haft ⟨5, .data⟩ (by simp) rfl)
                  obtain ⟨_, _, hO⟩ := J.ownA hTop
                  obtain ⟨aa, cc, rfl, _⟩ := row_form hO
                  clear hO
                  obtain rfl := J.f6 (haft ⟨6, .data⟩ (by simp) rfl)
                  have hc := (cellB (p := 0) (J.tb0 hLast)).trans rfl
                  have hf : W.frozen? ⟨w4.heap.size, 0, none⟩ = false := freeB (J.tb0 hLast)
                  go_simp
                  exact hK _ _ ⟨_, _, _, _, _, _, _, rfl, ⟨(fun h => J.f0 (un h)), (fun h => J.f1 (un h)), (fun h => J.f2 (un h)), (fun h => J.f3 (un h)), (fun _ h2 => by rw [upd_ne rfl, hTop] at h2; cases h2), (fun h => J.f6 (un h)), (by rw [rowRCnt_same (by decide)]; exact J.rd.set (p := ⟨w4.heap.size, 0, none⟩) htr (.slice aa (cs.length + 1) cc)), (J.bk.set (p := ⟨w4.heap.size, 0, none⟩) (.inr htn) (.slice aa (cs.length + 1) cc)), (hF _ _ J.fr (Off.set W ⟨w4.heap.size, 0, none⟩ rfl (.slice aa (cs.length + 1) cc))), (fun h => by rw [upd_ne rfl, hTop] at h; cases h), (fun _ => by obtain ⟨nw, h1, h2⟩ := J.ownA hTop; exact ⟨nw, h1, row_set (p := 0) h2 (J.tb0 hLast) (by decide) (.slice aa (cs.length + 1) cc)⟩), (fun h => by rw [upd_self] at h; cases h), (fun _ => setB (J.tb0 hLast) (.slice aa (cs.length + 1) cc))⟩⟩
              case hd =>
                rename_i K0 hK0
                intro L a W hJ hall
                obtain ⟨v57, v58, v59, v60, v61, v62, v63, ha, J⟩ := hJ
                dsimp only at ha
                subst ha
                have hTop := J.ownA (hall 5 (by simp))
                have hT1 : W.heap[w4.heap.size]? = some (.cells #[v62, .bool b4] 51) := J.tb1 (hall 7 (by simp))
                obtain ⟨_, ⟨x, rfl, hx⟩, hO1⟩ := hTop
                have HT1 := Hid.intro hT1
                have HO1 : Hid (OwnC W w4.heap.size v62 (cs ++ [x])) := by
                  show W.ownsRow _ _ _ _ _ _
                  rw [List.length_append, List.flatMap_append]
                  simpa using hO1
                have HR1 : Hid (Rd W r (B + 18 + 210 * ur.length + 2 + 50 * (cs ++ [x]).length)) := J.rd.mono (by have := rowRCnt_le L; rw [List.length_append]; simp; omega)
                have HC1 : Hid (∀ y ∈ cs ++ [x], Cx y) := fun y hy => by
                  rcases List.mem_append.1 hy with hy | hy
                  · exact HC.out y hy
                  · simp at hy
                    subst hy
                    exact hx
                have HB1 := Hid.intro J.bk
                have HF1 := Hid.intro J.fr
                clear J hall hO1 hT1 hRd hBk hTb hOwn hF hFr HC
                refine hK0 _ _ ?_
                clear hK0
                go_wp2
                go_roundw
                case rel => exact ⟨q - 1, v62, cs ++ [x], by go_num, by rw [List.length_append]; simp; omega, HC1, HT1, HO1, HR1, HB1, HF1⟩
                case measure => simp [intOf]; omega
            · obtain rfl : q = 0 := by omega
              clear hq0
              obtain ⟨i0, hi0, hz0, hz1, hz2⟩ := info_parts infoRow
              obtain ⟨ua, uc, rfl, _⟩ := row_form HU.out
              obtain ⟨ra, rc, rfl, _⟩ := row_form HF.out.2.2.1.own
              have y0 : wr.cell? ⟨w4.heap.size, 0, none⟩ = some (.slice ua cs.length uc) := cellB HY.out
              have y1 : wr.cell? ⟨w4.heap.size, 1, none⟩ = some (.bool b4) := cellB HY.out
              have t3 : wr.cell? ⟨w1.heap.size, 3, none⟩ = some (.slice ra ur.length rc) := cellB HF.out.1
              have hsz : w.heap.size ≤ wr.heap.size := HBk.out.size
              have hla := bk_alloc r wr (.cells #[.slice ua cs.length uc, .bool b4] 51)
              have hOA := HF.out.2.2.1.bk hla hlt
              have hUA : OwnC _ w4.heap.size (.slice ua cs.length uc) cs := row_bk HU.out hla (by omega)
              have hXN := newestB wr (.cells #[.slice ua cs.length uc, .bool b4] 51)
              go_wp2_with (at_builtin; refine wpList_append_own _ rfl _ _ 35 rfl w.heap.size 51 i0 _ 2 32 Try.underlying35 hi0 hz0 hz1 hz2 rfl (by decide) _ _ _ rfl hOA.own ⟨wr.heap.size, 0, none⟩ 1 1 [.slice ua cs.length uc, .bool b4] rfl rfl (news_at hXN) (by simp [Value.oneCell']) (by unfold maxLen; omega) (by omega) (by simp; omega) ?_)
              intro v' w6 hown' hg' _
              have hR6 : OwnR w6 w.heap.size v' (ur ++ [(.slice ua cs.length uc, ⟨cs, b4⟩)]) := hOA.snoc hUA (by omega) hul hg' hown'
              have hFA : FT w w1.heap.size vc (.slice ra ur.length rc) gp ps ur (wr.alloc (.cells #[.slice ua cs.length uc, .bool b4] 51)) := ⟨(hla.block _ (Array.getElem?_eq_some_iff.1 HF.out.1).1 htb).trans HF.out.1, row_bk HF.out.2.1 hla hlt, hOA, (hla.block _ (Array.getElem?_eq_some_iff.1 HF.out.2.2.2).1 (by omega)).trans HF.out.2.2.2⟩
              have T6 := Hid.intro (blk_grown hFA.1 hg' (ne_of_own (row_ne_block hOA.own hFA.1 (by decide))))
              have X6 := Hid.intro (blk_grown hFA.2.2.2 hg' (ne_of_own (row_ne_block hOA.own hFA.2.2.2 (by decide))))
              have C6 : OwnCol w6 w.heap.size vc ps := row_off (n := w.heap.size) (b1 := none) hFA.2.1 (Off.grown hg') (Nat.le_refl _) (by cases vc.ownBlock <;> simp) (row_ne hFA.2.1 hOA.own (by decide))
              have R6 := Hid.intro ((HRd.out.alloc (.cells #[.slice ua cs.length uc, .bool b4] 51)).grown hg' (fun i hi => by have := (row_lt hOA.own hi).1; omega))
              have K6 := Hid.intro ((HBk.out.alloc (.cells #[.slice ua cs.length uc, .bool b4] 51)).grown hg' (fun i hi => (row_lt hOA.own hi).1))
              obtain ⟨va, vcap, rfl, _⟩ := row_form hown'
              have HS6 : Hid (∀ p ∈ ur ++ [(Value.slice ua cs.length uc, (⟨cs, b4⟩ : R))], p.2.cells.length ≤ 4 ∧ ∀ x ∈ p.2.cells, Cx x) := fun p hp => by
                rcases List.mem_append.1 hp with hp | hp
                · exact HS.out p hp
                · simp at hp
                  subst hp
                  exact ⟨by dsimp only; omega, HC.out⟩
              have s3 : w6.cell? ⟨w1.heap.size, 3, none⟩ = some (.slice ra ur.length rc) := cellB T6.out
              have sf : w6.frozen? ⟨w1.heap.size, 3, none⟩ = false := freeB T6.out
              have HT7 : Hid ((w6.setCell ⟨w1.heap.size, 3, none⟩ (.slice va (ur.length + 1) vcap)).heap[w1.heap.size]? = some (.cells #[vc, .int .i64 0, .int .i64 0, .slice va (ur.length + 1) vcap, .int .i64 gp] 37)) := setB T6.out _
              have HX7 : Hid ((w6.setCell ⟨w1.heap.size, 3, none⟩ (.slice va (ur.length + 1) vcap)).heap[w.heap.size]? = some (.cells #[.slice none 0 0, .int .i64 0, .int .i64 0, .slice none 0 0, .int .i64 0] 37)) := (Below.heap_setCell _ _ _ _ (by dsimp only; omega)).trans X6.out
              have HO7 : Hid (OwnCol (w6.setCell ⟨w1.heap.size, 3, none⟩ (.slice va (ur.length + 1) vcap)) w.heap.size vc ps) := row_set C6 T6.out (by decide) _
              have HW7 := Hid.intro (hR6.set (p := 3) T6.out (.slice va (ur.length + 1) vcap))
              have HR7 : Hid (Rd (w6.setCell ⟨w1.heap.size, 3, none⟩ (.slice va (ur.length + 1) vcap)) r (B + 18 + 210 * (ur.length + 1))) := (R6.out.set (p := ⟨w1.heap.size, 3, none⟩) htr _).mono (by omega)
              have HB7 := Hid.intro (K6.out.set (p := ⟨w1.heap.size, 3, none⟩) (.inr htn) (.slice va (ur.length + 1) vcap))
              clear hown' hg' hR6 hFA C6 hOA hUA hXN hla T6 X6 R6 K6 HF HU HY HRd HBk HC HS y0 y1 t3
              go_wp2
              go_roundw
              case rel => exact ⟨ur.length + 1, _, _, by go_num, by omega, by rw [List.length_append]; simp, HS6, HT7, HO7, HW7, HR7, HB7, HX7⟩
              case measure => simp [intOf]; omega
        · have hj1 : ¬ (ur.length : Int) < 1 + (N0 : Int) := by omega
          go_upto_if 72 with (go_at_call 38; refine (pick_any _ _ _ _ HRd.out (by omega)).mono ?_; rintro e w7 ⟨k7, rfl, _, hR7, hb7⟩)
          have T7 := Hid.intro ((hb7.block w1.heap.size (Array.getElem?_eq_some_iff.1 HT.out).1 htb).trans HT.out)
          have X7 := Hid.intro ((hb7.block w.heap.size (Array.getElem?_eq_some_iff.1 HX.out).1 (by omega)).trans HX.out)
          have O7 : Hid (OwnCol w7 w.heap.size vc ps) := row_bk HO.out hb7 hlt
          have W7 : Hid (OwnR w7 w.heap.size vr ur) := HW.out.bk hb7 hlt
          have K7 := Hid.intro (HBk.out.trans hb7)
          have R7 := Hid.intro hR7
          clear hR7 hb7 HT HO HW HRd HBk HX T3 X3 O3 R3 K3
          go_cut [5] (fun s W => s = .int .i64 (1 + (N0 : Int)) ∧ ∃ hd ft : Int, Hid (W.heap[w1.heap.size]? = some (.cells #[vc, .int .i64 hd, .int .i64 ft, vr, .int .i64 gp] 37)) ∧ Hid (OwnCol W w.heap.size vc ps) ∧ Hid (OwnR W w.heap.size vr ur) ∧ Hid (Rd W r (B + 1900)) ∧ Hid (Bk r w W) ∧ Hid (W.heap[w.heap.size]? = some (.cells #[.slice none 0 0, .int .i64 0, .int .i64 0, .slice none 0 0, .int .i64 0] 37)))
          case first =>
            by_cases h7 : k7 = 0
            · subst h7
              go_wp2_with fail
              refine (pick_any _ _ _ _ R7.out (by omega)).mono ?_
              rintro e w8 ⟨h8, rfl, hh8, hR8, hb8⟩
              obtain ⟨h81, h82⟩ := hh8 (by omega)
              have T8 := (hb8.block w1.heap.size (Array.getElem?_eq_some_iff.1 T7.out).1 htb).trans T7.out
              have X8 := (hb8.block w.heap.size (Array.getElem?_eq_some_iff.1 X7.out).1 (by omega)).trans X7.out
              have O8 : OwnCol w8 w.heap.size vc ps := row_bk O7.out hb8 hlt
              have W8 : OwnR w8 w.heap.size vr ur := W7.out.bk hb8 hlt
              have K8 := K7.out.trans hb8
              have c8 : w8.cell? ⟨w1.heap.size, 1, none⟩ = some (.int .i64 0) := cellB T8
              have f8 : w8.frozen? ⟨w1.heap.size, 1, none⟩ = false := freeB T8
              have T8a : (w8.setCell ⟨w1.heap.size, 1, none⟩ (.int .i64 h8)).heap[w1.heap.size]? = some (.cells #[vc, .int .i64 h8, .int .i64 0, vr, .int .i64 gp] 37) := setB T8 _
              have X8a : (w8.setCell ⟨w1.heap.size, 1, none⟩ (.int .i64 h8)).heap[w.heap.size]? = some (.cells #[.slice none 0 0, .int .i64 0, .int .i64 0, .slice none 0 0, .int .i64 0] 37) := (Below.heap_setCell _ _ _ _ (by dsimp only; omega)).trans X8
              have O8a : OwnCol (w8.setCell ⟨w1.heap.size, 1, none⟩ (.int .i64 h8)) w.heap.size vc ps := row_set O8 T8 (by decide) _
              have W8a := W8.set (p := 1) T8 (.int .i64 h8)
              have K8a := K8.set (p := ⟨w1.heap.size, 1, none⟩) (.inr htn) (.int .i64 h8)
              have R8a := hR8.set (p := ⟨w1.heap.size, 1, none⟩) htr (.int .i64 h8)
              clear T7 X7 O7 W7 K7 R7 hh8 hR8 hb8 T8 X8 O8 W8 K8
              go_wp2_with fail
              refine (pick_any _ _ _ _ R8a (by omega)).mono ?_
              rintro e w9 ⟨f9, rfl, hf9, hR9, hb9⟩
              obtain ⟨f91, f92⟩ := hf9 (by omega)
              have T9 := (hb9.block w1.heap.size (Array.getElem?_eq_some_iff.1 T8a).1 htb).trans T8a
              have X9 := (hb9.block w.heap.size (Array.getElem?_eq_some_iff.1 X8a).1 (by omega)).trans X8a
              have O9 : OwnCol w9 w.heap.size vc ps := row_bk O8a hb9 hlt
              have W9 : OwnR w9 w.heap.size vr ur := W8a.bk hb9 hlt
              have K9 := K8a.trans hb9
              have c9 : w9.cell? ⟨w1.heap.size, 2, none⟩ = some (.int .i64 0) := cellB T9
              have d9 : w9.cell? ⟨w1.heap.size, 1, none⟩ = some (.int .i64 h8) := cellB T9
              have f9' : w9.frozen? ⟨w1.heap.size, 2, none⟩ = false := freeB T9
              have T9a : (w9.setCell ⟨w1.heap.size, 2, none⟩ (.int .i64 f9)).heap[w1.heap.size]? = some (.cells #[vc, .int .i64 h8, .int .i64 f9, vr, .int .i64 gp] 37) := setB T9 _
              have HTa := Hid.intro T9a
              have HXa : Hid ((w9.setCell ⟨w1.heap.size, 2, none⟩ (.int .i64 f9)).heap[w.heap.size]? = some (.cells #[.slice none 0 0, .int .i64 0, .int .i64 0, .slice none 0 0, .int .i64 0] 37)) := (Below.heap_setCell _ _ _ _ (by dsimp only; omega)).trans X9
              have HOa : Hid (OwnCol (w9.setCell ⟨w1.heap.size, 2, none⟩ (.int .i64 f9)) w.heap.size vc ps) := row_set O9 T9 (by decide) _
              have HWa := Hid.intro (W9.set (p := 2) T9 (.int .i64 f9))
              have HBa := Hid.intro (K9.set (p := ⟨w1.heap.size, 2, none⟩) (.inr htn) (.int .i64 f9))
              have HRa := Hid.intro (hR9.set (p := ⟨w1.heap.size, 2, none⟩) htr (.int .i64 f9))
              have hca : (w9.setCell ⟨w1.heap.size, 2, none⟩ (.int .i64 f9)).cell? ⟨w1.heap.size, 2, none⟩ = some (.int .i64 f9) := cellB T9a
              clear T8a X8a O8a W8a K8a R8a hf9 hR9 hb9 T9 X9 O9 W9 K9 T9a
              by_cases hgt : (1 + (N0 : Int)) < h8 + f9
              · have HTb : Hid (((w9.setCell ⟨w1.heap.size, 2, none⟩ (.int .i64 f9)).setCell ⟨w1.heap.size, 2, none⟩ (.int .i64 0)).heap[w1.heap.size]? = some (.cells #[vc, .int .i64 h8, .int .i64 0, vr, .int .i64 gp] 37)) := setB HTa.out _
                have HXb : Hid (((w9.setCell ⟨w1.heap.size, 2, none⟩ (.int .i64 f9)).setCell ⟨w1.heap.size, 2, none⟩ (.int .i64 0)).heap[w.heap.size]? = some (.cells #[.slice none 0 0, .int .i64 0, .int .i64 0, .slice none 0 0, .int .i64 0] 37)) := (Below.heap_setCell _ _ _ _ (by dsimp only; omega)).trans HXa.out
                have HOb : Hid (OwnCol ((w9.setCell ⟨w1.heap.size, 2, none⟩ (.int .i64 f9)).setCell ⟨w1.heap.size, 2, none⟩ (.int .i64 0)) w.heap.size vc ps) := row_set HOa.out HTa.out (by decide) _
                have HWb := Hid.intro (HWa.out.set (p := 2) HTa.out (.int .i64 0))
                have HBb := Hid.intro (HBa.out.set (p := ⟨w1.heap.size, 2, none⟩) (.inr htn) (.int .i64 0))
                have HRb := Hid.intro (HRa.out.set (p := ⟨w1.heap.size, 2, none⟩) htr (.int .i64 0))
                clear HTa HXa HOa HWa HBa HRa
                go_wp2_with fail
                go_meet
                case rel => exact ⟨rfl, h8, 0, HTb, HOb, HWb, HRb.out.mono (by omega), HBb, HXb⟩
              · go_wp2_with fail
                go_meet
                case rel => exact ⟨rfl, h8, f9, HTa, HOa, HWa, HRa.out.mono (by omega), HBa, HXa⟩
            · have h7' : (k7 == 0) = false := beq_eq_false_iff_ne.2 h7
              go_wp2_with fail
              go_meet
              case rel => exact ⟨rfl, 0, 0, T7, O7, W7, R7.out.mono (by omega), K7, X7⟩
          case rest =>
            obtain ⟨rfl, hd, ft, HT', HO', HW', HRd', HBk', HX'⟩ := hcut
            obtain ⟨ac, cc, rfl, _⟩ := row_form HO'.out
            obtain ⟨ar, cr, rfl, _⟩ := row_form HW'.out.own
            have hml : (ur.map (·.2)).length = ur.length := by simp
            have KT := Hid.intro (specTblOk ac ar cc cr ⟨ps, hd, ft, ur.map (·.2), gp⟩ wc HO'.out.at (by rw [hml]; exact HW'.out.at (fun p hp x hx => ((HS.out p hp).2 x hx).1)))
            dsimp only at KT
            rw [hml] at KT
            have t0 : wc.cell? ⟨w1.heap.size, 0, none⟩ = some (.slice ac ps.length cc) := cellB HT'.out
            have t1 : wc.cell? ⟨w1.heap.size, 1, none⟩ = some (.int .i64 hd) := cellB HT'.out
            have t2 : wc.cell? ⟨w1.heap.size, 2, none⟩ = some (.int .i64 ft) := cellB HT'.out
            have t3 : wc.cell? ⟨w1.heap.size, 3, none⟩ = some (.slice ar ur.length cr) := cellB HT'.out
            have t4 : wc.cell? ⟨w1.heap.size, 4, none⟩ = some (.int .i64 gp) := cellB HT'.out
            have hzc := (Array.getElem?_eq_some_iff.1 HT'.out).1
            clear T7 X7 O7 W7 K7 R7 hj1
            go_wp2_with fail
            refine KT.out.mono ?_
            rintro e wd ⟨rfl, hbd⟩
            have hbd' : Bk r wc wd := Bk.of_below hbd
            have HTd := Hid.intro ((hbd.block w1.heap.size hzc).trans HT'.out)
            have HXd := Hid.intro ((hbd.block w.heap.size (by omega)).trans HX'.out)
            have HOd : Hid (OwnCol wd w.heap.size _ ps) := row_bk HO'.out hbd' hlt
            have HWd : Hid (OwnR wd w.heap.size _ ur) := HW'.out.bk hbd' hlt
            have HBd := Hid.intro (HBk'.out.trans hbd')
            have HRd2 := Hid.intro (HRd'.out.kept hbd)
            clear t0 t1 t2 t3 t4 KT hbd hbd' HT' HO' HW' HRd' HBk' HX' hzc
            have d0 : wd.cell? ⟨w1.heap.size, 0, none⟩ = some (.slice ac ps.length cc) := cellB HTd.out
            have d1 : wd.cell? ⟨w1.heap.size, 1, none⟩ = some (.int .i64 hd) := cellB HTd.out
            have d2 : wd.cell? ⟨w1.heap.size, 2, none⟩ = some (.int .i64 ft) := cellB HTd.out
            have d3 : wd.cell? ⟨w1.heap.size, 3, none⟩ = some (.slice ar ur.length cr) := cellB HTd.out
            have d4 : wd.cell? ⟨w1.heap.size, 4, none⟩ = some (.int .i64 gp) := cellB HTd.out
            obtain ⟨⟨x0, x1, x2, x3, x4⟩, y0, y1, y2, y3, y4⟩ := fiveZ HXd.out
            cases htb2 : tblB ⟨ps, hd, ft, ur.map (·.2), gp⟩ with
            | true =>
              have k5 := st5_bk wd w.heap.size (.slice ac ps.length cc) (.int .i64 hd) (.int .i64 ft) (.slice ar ur.length cr) (.int .i64 gp)
              have HZ := Hid.intro (own_st5 HOd.out HWd.out HXd.out (.slice ac ps.length cc) (.int .i64 hd) (.int .i64 ft) (.slice ar ur.length cr) (.int .i64 gp))
              have HZR : Hid (Rd (st5 wd w.heap.size (.slice ac ps.length cc) (.int .i64 hd) (.int .i64 ft) (.slice ar ur.length cr) (.int .i64 gp)) r (B + 2000)) := (HRd2.out.keep (fun k hk => k5.block k (by have := HRd2.out.lt; omega) (by omega))).mono (by omega)
              have HZB : Hid (Bk r w (st5 wd w.heap.size (.slice ac ps.length cc) (.int .i64 hd) (.int .i64 ft) (.slice ar ur.length cr) (.int .i64 gp))) := HBd.out.via k5 (Nat.le_refl _)
              have HTB := Hid.intro htb2
              clear HTd HXd HOd HWd HBd HRd2 k5 htb2
              go_wp2
              exact bodyPost_ret (v := .agg #[.slice ac ps.length cc, .int .i64 hd, .int .i64 ft, .slice ar ur.length cr, .int .i64 gp]) (by simp [results, Try.results56, go_sem, x0, x1, x2, x3, x4]) rfl ⟨_, _, ⟨ps, hd, ft, ur.map (·.2), gp⟩, ur, rfl, rfl, HTB.out, HS.out, HZ.out.1, HZ.out.2, HZR.out, HZB.out⟩
            | false =>
              have k5 := st5_bk wd w.heap.size (.slice none 0 0) (.int .i64 0) (.int .i64 0) (.slice (some ⟨wd.heap.size, 0, none⟩) 1 1) (.int .i64 0)
              have hzd : w.heap.size < wd.heap.size := (Array.getElem?_eq_some_iff.1 HXd.out).1
              have e5 : (st5 wd w.heap.size (.slice none 0 0) (.int .i64 0) (.int .i64 0) (.slice (some ⟨wd.heap.size, 0, none⟩) 1 1) (.int .i64 0)).heap.size = wd.heap.size := by simp [st5, World.setCell]
              have HZ0 := one_row (base := w.heap.size) (st5 wd w.heap.size (.slice none 0 0) (.int .i64 0) (.int .i64 0) (.slice (some ⟨wd.heap.size, 0, none⟩) 1 1) (.int .i64 0)) (by omega)
              rw [e5] at HZ0
              have HZ := Hid.intro HZ0
              have HZC : Hid (OwnCol ((st5 wd w.heap.size (.slice none 0 0) (.int .i64 0) (.int .i64 0) (.slice (some ⟨wd.heap.size, 0, none⟩) 1 1) (.int .i64 0)).alloc (.cells #[.slice none 0 0, .bool false] 51)) w.heap.size (.slice none 0 0) []) := ⟨rfl, .inl ⟨rfl, rfl⟩⟩
              have HZR : Hid (Rd ((st5 wd w.heap.size (.slice none 0 0) (.int .i64 0) (.int .i64 0) (.slice (some ⟨wd.heap.size, 0, none⟩) 1 1) (.int .i64 0)).alloc (.cells #[.slice none 0 0, .bool false] 51)) r (B + 2000)) := Rd.alloc ((HRd2.out.keep (fun k hk => k5.block k (by have := HRd2.out.lt; omega) (by omega))).mono (by omega)) _
              have HZB : Hid (Bk r w ((st5 wd w.heap.size (.slice none 0 0) (.int .i64 0) (.int .i64 0) (.slice (some ⟨wd.heap.size, 0, none⟩) 1 1) (.int .i64 0)).alloc (.cells #[.slice none 0 0, .bool false] 51))) := (HBd.out.via k5 (Nat.le_refl _)).alloc _
              obtain ⟨q0, q1, q2, q3, q4⟩ := st5_cells HXd.out (.slice none 0 0) (.int .i64 0) (.int .i64 0) (.slice (some ⟨wd.heap.size, 0, none⟩) 1 1) (.int .i64 0) (.cells #[.slice none 0 0, .bool false] 51)
              clear HTd HXd HOd HWd HBd HRd2 k5 htb2 HZ0 e5
              go_wp2
              exact bodyPost_ret (v := .agg #[.slice none 0 0, .int .i64 0, .int .i64 0, .slice (some ⟨wd.heap.size, 0, none⟩) 1 1, .int .i64 0]) (by simp [results, Try.results56, go_sem, q0, q1, q2, q3, q4]) rfl ⟨_, _, ⟨[], 0, 0, [dR], 0⟩, [(.slice none 0 0, dR)], rfl, rfl, tblB_dflt, few_dflt, HZC.out, HZ.out, HZR.out, HZB.out⟩
end Go.Proofs.Ytggmjiddadjilal
