/-
  PROVED HERE: what the program's and the model's GrdEmpty answer at a grid that lies in memory: how many slots no cell has; nothing that was in memory is turned.
-/
import Derived.Test.YtfkfgmfahoeaoatGrdTak
import Derived.Test.YtfkfgmfahoeaoatGrdS2
namespace Go.Proofs.Ytfkfgmfahoeaoat
open Go.RowKit Go.BigFrame

/-- how many slots cells have -/
def areaOf (gs : List GC) : Int := gs.foldl (fun n x => n + x.rows * x.cols) 0
theorem areaOf_snoc (gs : List GC) (x : GC) : areaOf (gs ++ [x]) = areaOf gs + x.rows * x.cols := by simp [areaOf]
def emptyOf (g : G) : Int := if okB g then g.rows * g.cols - areaOf g.cells else 0
theorem emptyOf_ok {g : G} (h : okB g = true) : emptyOf g = g.rows * g.cols - areaOf g.cells := by rw [emptyOf, if_pos h]
theorem emptyOf_no {g : G} (h : okB g = false) : emptyOf g = 0 := by rw [emptyOf, if_neg (by rw [h]; simp)]

theorem rowSl_nodup {r c a : Nat} (hr : r ≤ 1000) (hc : c + a ≤ 1000) : ((rowSl r c a).map (·.1)).Nodup := by
  have e : (rowSl r c a).map (·.1) = (List.range a).map (fun j => (r, c + j)) := by
    simp only [rowSl, List.map_map]
    refine List.map_congr_left (fun j hj => ?_)
    have := List.mem_range.1 hj
    exact toSl_val (by omega)
  rw [e]
  exact List.pairwise_map.2 (List.nodup_range.imp (fun h e => h (by simpa using e)))
theorem rowsSl_nodup {r c cs : Nat} (hc : c + cs ≤ 1000) : ∀ (d : Nat), r + d ≤ 1000 → ((rowsSl r c cs d).map (·.1)).Nodup
  | 0, _ => by simp [rowsSl]
  | d + 1, h => by
    rw [rowsSl_succ, List.map_append, List.nodup_append]
    refine ⟨rowsSl_nodup hc d (by omega), rowSl_nodup (by omega) hc, fun x hx y hy e => ?_⟩
    subst e
    have h1 := (mem_rowsSl (by omega) hc x).1 hx
    have h2 : x.1 = r + d := by
      obtain ⟨z, hz, rfl⟩ := List.mem_map.1 hy
      obtain ⟨j, hj, rfl⟩ := List.mem_map.1 hz
      have := List.mem_range.1 hj
      rw [toSl_val (by omega)]
    omega
theorem okTo_free {R C : Int} {gs : List GC} {k n : Nat} (h : okTo R C gs n = true) (hk : k < n) : fitsB R C (gs.getD k dG) = true ∧ freeG (gs.take k) (gs.getD k dG) = true := by
  have := List.all_eq_true.1 h k (List.mem_range.2 hk)
  rwa [Bool.and_eq_true] at this
theorem takenBy_nodup {R C : Int} (hR : R ≤ 8) (hC : C ≤ 94) {gs : List GC} (h : okTo R C gs gs.length = true) : ∀ k, k ≤ gs.length → (takenBy (gs.take k)).Nodup ∧ ((takenBy (gs.take k)).length : Int) = areaOf (gs.take k)
  | 0, _ => by simp [takenBy, areaOf]
  | k + 1, hk => by
    obtain ⟨ih1, ih2⟩ := takenBy_nodup hR hC h k (by omega)
    obtain ⟨hf, hfr⟩ := okTo_free h (show k < gs.length by omega)
    have hall := fun a ha => okTo_fits (Nat.le_refl _) h a ((List.take_sublist k gs).subset ha |> fun hm => by rw [List.take_length]; exact hm)
    have e : gs.take (k + 1) = gs.take k ++ [gs.getD k dG] := by
      rw [List.take_succ_eq_append_getElem (by omega)]
      simp [List.getD, show k < gs.length by omega]
    rw [e, takenBy_snoc, areaOf_snoc, List.length_append, List.nodup_append]
    generalize gs.getD k dG = x at *
    obtain ⟨e1, e2, e3, e4, h1, h2, h3, h4⟩ := fits_of hf
    refine ⟨⟨ih1, rowsSl_nodup (by omega) _ (by omega), fun y hy y' hy' ee => ?_⟩, ?_⟩
    · subst ee
      obtain ⟨u, hu, e⟩ := List.mem_map.1 hy
      obtain ⟨a, ha, hua⟩ := List.mem_flatMap.1 hu
      have := List.all_eq_true.1 hfr a ha
      rw [(meets_iff (hall a ha) hf hR hC).2 ⟨y, List.mem_map.2 ⟨u, hua, e⟩, hy'⟩] at this
      cases this
    · have hl : ((slotsG x).map (·.1)).length = x.rows.toNat * x.cols.toNat := by rw [List.length_map]; exact rowsSl_len _ _ _ _
      rw [hl, Int.natCast_add, ih2, Int.natCast_mul, ← e3, ← e4]
theorem taken_full {g : G} (h : okB g = true) : (takenBy g.cells).Nodup ∧ ((takenBy g.cells).length : Int) = areaOf g.cells := by
  unfold okB at h
  rw [Bool.and_eq_true] at h
  obtain ⟨hR1, hR2, hC1, hC2, hn⟩ := bounds_of h.1
  have := takenBy_nodup hR2 hC2 h.2 g.cells.length (Nat.le_refl _)
  rwa [List.take_length] at this

set_option maxRecDepth 100000 in
set_option maxHeartbeats 1000000 in
theorem implGrdEmpty (R C : Int) (ac : Option Addr) (cc : Nat) (gs : List GC) (w : World) {z : Nat} (h : GsAt w z (.slice ac gs.length cc) gs) :
    Calls Try.prog 13 #[.agg #[.int .i64 R, .int .i64 C, .slice ac gs.length cc]] w fun e w' => e = .returned (.int .i64 (emptyOf ⟨R, C, gs⟩)) ∧ Below w.heap.size w w' := by
  have K0 := Hid.intro (k_alloc (Below.refl w.heap.size w) (.cells #[.int .i64 R, .int .i64 C, .slice ac gs.length cc] 29))
  have H := Hid.intro (h.kept K0.out)
  clear h
  go_enter Try.func13, Try.ntmps13
  go_wp2_with fail
  refine (takersOf_any R C ac cc gs _ H.out).mono ?_
  rintro e w1 ⟨ho, hb1⟩
  have K1 := Hid.intro (k_trans K0.out hb1)
  have X1 := Hid.intro ((hb1.block w.heap.size (by simp)).trans (newestB _ _))
  clear hb1
  rcases ho with ⟨h1, rfl⟩ | ⟨h1, B, _, rfl, hT⟩
  · have HF := Hid.intro (emptyOf_no h1)
    clear h1
    go_wp2
    go_ret
    exact ⟨by rw [HF.out]; rfl, K1.out⟩
  · have HF := Hid.intro (emptyOf_ok h1)
    obtain ⟨hnd, har⟩ := taken_full h1
    have HA := Hid.intro har
    have hbd : boundsB R C gs.length = true := by
      have := h1
      simp only [okB, Bool.and_eq_true] at this
      exact this.1
    obtain ⟨hR1, hR2, hC1, hC2, hn⟩ := bounds_of hbd
    have hln := takenBy_len hR2 hC2 gs (by have := h1; simp only [okB, Bool.and_eq_true] at this; have h3 := okTo_fits (Nat.le_refl _) this.2; rwa [List.take_length] at h3)
    have hlb : (takenBy gs).length ≤ 40000 := by have : gs.length * 752 ≤ 40 * 752 := Nat.mul_le_mul_right _ hn; omega
    have hlen := hT.len hnd
    have g0 : w1.cell? ⟨w.heap.size, 0, none⟩ = some (.int .i64 R) := cellB X1.out
    have g1 : w1.cell? ⟨w.heap.size, 1, none⟩ = some (.int .i64 C) := cellB X1.out
    have hm1 : 0 ≤ R * C := Int.mul_nonneg (by omega) (by omega)
    have hm2 : R * C ≤ 8 * 94 := Int.mul_le_mul hR2 hC2 (by omega) (by omega)
    clear hT hnd hbd h1 hln har
    generalize takenBy gs = T at *
    go_wp2
    go_ret
    refine ⟨?_, K1.out⟩
    rw [HF.out, ← HA.out]
    rfl

theorem areaOf_le {R C : Int} (hR : R ≤ 8) (hC : C ≤ 94) : ∀ (gs : List GC), (∀ a ∈ gs, fitsB R C a = true) → ∀ n : Int, n ≤ gs.foldl (fun n x => n + x.rows * x.cols) n ∧ gs.foldl (fun n x => n + x.rows * x.cols) n ≤ n + gs.length * 752
  | [], _, n => by simp
  | a :: t, h, n => by
    obtain ⟨e1, e2, e3, e4, h1, h2, h3, h4⟩ := fits_of (h a (by simp))
    have m1 : 0 ≤ a.rows * a.cols := Int.mul_nonneg (by omega) (by omega)
    have m2 : a.rows * a.cols ≤ 8 * 94 := Int.mul_le_mul (by omega) (by omega) (by omega) (by omega)
    obtain ⟨i1, i2⟩ := areaOf_le hR hC t (fun b hb => h b (by simp [hb])) (n + a.rows * a.cols)
    simp only [List.foldl_cons, List.length_cons]
    omega

set_option maxRecDepth 100000 in
set_option maxHeartbeats 2000000 in
theorem specGrdEmpty (R C : Int) (ac : Option Addr) (cc : Nat) (gs : List GC) (w : World) {z : Nat} (h : GsAt w z (.slice ac gs.length cc) gs) :
    Calls Try.prog 12 #[.agg #[.int .i64 R, .int .i64 C, .slice ac gs.length cc]] w fun e w' => e = .returned (.int .i64 (emptyOf ⟨R, C, gs⟩)) ∧ Below w.heap.size w w' := by
  obtain ⟨_, _, _, hlen⟩ := At.form h
  unfold maxLen at hlen
  have K0 := Hid.intro (k_alloc (Below.refl w.heap.size w) (.cells #[.int .i64 R, .int .i64 C, .slice ac gs.length cc] 29))
  have H := Hid.intro h
  clear h
  have KO := Hid.intro (specGrdOk R C ac cc gs _ (H.out.kept K0.out))
  cases ho : okB ⟨R, C, gs⟩ with
  | false =>
    have HF := Hid.intro (emptyOf_no ho)
    rw [ho] at KO
    clear ho
    go_enter Try.func12, Try.ntmps12
    go_wp2_with fail
    refine KO.out.mono ?_
    rintro e w1 ⟨rfl, hb1⟩
    have K1 := Hid.intro (k_trans K0.out hb1)
    clear hb1
    go_wp2
    go_ret
    exact ⟨by rw [HF.out]; rfl, K1.out⟩
  | true =>
    have HF := Hid.intro (emptyOf_ok ho)
    rw [ho] at KO
    have ho2 := ho
    simp only [okB, Bool.and_eq_true] at ho2
    obtain ⟨hR1, hR2, hC1, hC2, hn⟩ := bounds_of ho2.1
    have HFit := Hid.intro (okTo_fits (Nat.le_refl _) ho2.2)
    have hm1 : 0 ≤ R * C := Int.mul_nonneg (by omega) (by omega)
    have hm2 : R * C ≤ 8 * 94 := Int.mul_le_mul hR2 hC2 (by omega) (by omega)
    have HArea : Hid (∀ k, k ≤ gs.length → 0 ≤ areaOf (gs.take k) ∧ areaOf (gs.take k) ≤ 40000) := fun k hk => by
      have := areaOf_le hR2 hC2 (gs.take k) (fun a ha => HFit.out a (by rw [List.take_length]; exact (List.take_sublist k gs).subset ha)) 0
      rw [List.length_take] at this
      unfold areaOf
      omega
    clear ho ho2
    go_enter Try.func12, Try.ntmps12
    go_wp2_with fail
    refine KO.out.mono ?_
    rintro e w1 ⟨rfl, hb1⟩
    have K1 := Hid.intro (k_trans K0.out hb1)
    have X1 := Hid.intro ((hb1.block w.heap.size (by simp)).trans (newestB _ _))
    clear hb1
    have g0 : w1.cell? ⟨w.heap.size, 0, none⟩ = some (.int .i64 R) := cellB X1.out
    have g1 : w1.cell? ⟨w.heap.size, 1, none⟩ = some (.int .i64 C) := cellB X1.out
    go_wp2_with fail
    go_loopw [4, 3] (fun i n W => ∃ k : Nat, k ≤ gs.length ∧ i = .int .i64 k ∧ n = .int .i64 (R * C - areaOf (gs.take k)) ∧ Hid (Below w.heap.size w W) ∧ Hid (W.heap[w.heap.size]? = some (.cells #[.int .i64 R, .int .i64 C, .slice ac gs.length cc] 29))) (fun i _ _ => gs.length - (intOf i).toNat)
    case atStart => exact ⟨0, Nat.zero_le _, rfl, by simp [areaOf], K1, X1⟩
    case round =>
      obtain ⟨k, hk, rfl, rfl, HB, HX⟩ := hrel
      have g2 : wr.cell? ⟨w.heap.size, 2, none⟩ = some (.slice ac gs.length cc) := cellB HX.out
      by_cases hlt : k < gs.length
      · have hlt' : (k : Int) < (gs.length : Int) := by omega
        have h0' : (0 : Int) ≤ (k : Int) := by omega
        obtain ⟨q, off, cap', e', hc1, hc2, hbl, hx, hs⟩ := At.get (H.out.kept HB.out) hlt
        simp only [Value.slice.injEq, true_and] at e'
        obtain ⟨rfl, rfl⟩ := e'
        have HS : Hid (areaOf (gs.take (k + 1)) = areaOf (gs.take k) + (gs.getD k dG).rows * (gs.getD k dG).cols) := by
          show areaOf (gs.take (k + 1)) = _
          rw [← areaOf_snoc, List.take_succ_eq_append_getElem hlt]
          simp [List.getD, hlt]
        have a1 := HArea.out k hk
        have a2 := HArea.out (k + 1) hlt
        rw [HS.out] at a2
        have hfit : fitsB R C (gs.getD k dG) = true := HFit.out _ (by rw [List.take_length]; simp [List.getD, hlt])
        obtain ⟨e1, e2, e3, e4, f1, f2, f3, f4⟩ := fits_of hfit
        generalize gs.getD k dG = x at *
        generalize areaOf (gs.take k) = A at *
        have m1 : 0 ≤ x.rows * x.cols := Int.mul_nonneg (by omega) (by omega)
        have m2 : x.rows * x.cols ≤ 8 * 94 := Int.mul_le_mul (by omega) (by omega) (by omega) (by omega)
        obtain ⟨x0, x1, x2, x3, x4⟩ := hx
        unfold maxLen at hc2
        clear hs hfit e1 e2 e3 e4 f1 f2 f3 f4
        have p5 : IntKind.i64.wrap (x.rows * x.cols) = x.rows * x.cols := by rw [IntKind.wrap_i64]; omega
        have p6 : IntKind.i64.wrap (R * C - A - x.rows * x.cols) = R * C - A - x.rows * x.cols := by rw [IntKind.wrap_i64]; omega
        clear a1 a2
        go_wp2_with fail
        go_quiet (fail)
        have HB2 := Hid.intro (k_drewN HB.out nq)
        have HX2 : Hid ((wr.drewN nq).heap[w.heap.size]? = _) := Hid.intro HX.out
        go_wp2
        go_roundw
        case rel => exact ⟨k + 1, by omega, by go_num, by rw [HS.out, ← Int.sub_sub], HB2, HX2⟩
        case measure => simp [intOf]; omega
      · obtain rfl : k = gs.length := by omega
        go_wp2
        go_ret
        refine ⟨?_, HB.out⟩
        rw [HF.out, List.take_length]
        rfl
end Go.Proofs.Ytfkfgmfahoeaoat
