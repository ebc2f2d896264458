/-
  PROVED HERE: what the program's and the model's GrdEmpty answer at a grid that lies in memory: how many slots no cell has; nothing that was in memory is turned. Also: how a drawn table's cells are put at their places, row by row, each at the first column at which it is free: each finds it ahead of the 85th, since no more than twelve cells have a row in common with it and each shuts seven columns at most. Also: what the model's l1Max, l2Part and l2End answer; cells of a grid that a call owns lie in memory.
-/
import Derived.Test.YtggmjiddadjilacB15
import Derived.Test.YtggmjiddadjilacB16
import Derived.Test.YtggmjiddadjilacB5
import Derived.Test.YtggmjiddadjilacB6
import Derived.WalkLawsBesides
import Derived.WalkSpells
namespace Go.Proofs.Ytggmjiddadjilac
open Go.RowKit Go.BigFrame

/-- how many slots cells have -/
def areaOf (gs : List GC) : Int := gs.foldl (fun n x => n + x.rows * x.cols) 0
theorem areaOf_snoc (gs : List GC) (x : GC) : areaOf (gs ++ [x]) = areaOf gs + x.rows * x.cols := by simp [areaOf]
def emptyOf (g : G) : Int := if okB g then g.rows * g.cols - areaOf g.cells else 0
theorem emptyOf_ok {g : G} (h : okB g = true) : emptyOf g = g.rows * g.cols - areaOf g.cells := by rw [emptyOf, if_pos h]
theorem emptyOf_no {g : G} (h : okB g = false) : emptyOf g = 0 := by rw [emptyOf, if_neg (by rw [h]; simp)]

theorem rowSl_nodup {r c a : Nat} (hr : r ≤ 1000) (hc : c + a ≤ 1000) : ((rowSl r c a).map (·.1)).Nodup := by
  have e : (rowSl r c a).map (·.1) = (List.range a).map (fun j => (r, c + j)) := by
    simp only [rowSl, List.map_map]
    refine List.map_congr_left (fun j hj => ?_)
    have := List.mem_range.1 hj
    exact toSl_val (by omega)
  rw [e]
  exact List.pairwise_map.2 (List.nodup_range.imp (fun h e => h (by simpa using e)))
theorem rowsSl_nodup {r c cs : Nat} (hc : c + cs ≤ 1000) : ∀ (d : Nat), r + d ≤ 1000 → ((rowsSl r c cs d).map (·.1)).Nodup
  | 0, _ => by simp [rowsSl]
  | d + 1, h => by
    rw [rowsSl_succ, List.map_append, List.nodup_append]
    refine ⟨rowsSl_nodup hc d (by omega), rowSl_nodup (by omega) hc, fun x hx y hy e => ?_⟩
    subst e
    have h1 := (mem_rowsSl (by omega) hc x).1 hx
    have h2 : x.1 = r + d := by
      obtain ⟨z, hz, rfl⟩ := List.mem_map.1 hy
      obtain ⟨j, hj, rfl⟩ := List.mem_map.1 hz
      have := List.mem_range.1 hj
      rw [toSl_val (by omega)]
    omega
theorem okTo_free {R C : Int} {gs : List GC} {k n : Nat} (h : okTo R C gs n = true) (hk : k < n) : fitsB R C (gs.getD k dG) = true ∧ freeG (gs.take k) (gs.getD k dG) = true := by
  have := List.all_eq_true.1 h k (List.mem_range.2 hk)
  rwa [Bool.and_eq_true] at this
theorem takenBy_nodup {R C : Int} (hR : R ≤ 8) (hC : C ≤ 94) {gs : List GC} (h : okTo R C gs gs.length = true) : ∀ k, k ≤ gs.length → (takenBy (gs.take k)).Nodup ∧ ((takenBy (gs.take k)).length : Int) = areaOf (gs.take k)
  | 0, _ => by simp [takenBy, areaOf]
  | k + 1, hk => by
    obtain ⟨ih1, ih2⟩ := takenBy_nodup hR hC h k (by omega)
    obtain ⟨hf, hfr⟩ := okTo_free h (show k < gs.length by omega)
    have hall := fun a ha => okTo_fits (Nat.le_refl _) h a ((List.take_sublist k gs).subset ha |> fun hm => by rw [List.take_length]; exact hm)
    have e : gs.take (k + 1) = gs.take k ++ [gs.getD k dG] := by
      rw [List.take_succ_eq_append_getElem (by omega)]
      simp [List.getD, show k < gs.length by omega]
    rw [e, takenBy_snoc, areaOf_snoc, List.length_append, List.nodup_append]
    generalize gs.getD k dG = x at *
    obtain ⟨e1, e2, e3, e4, h1, h2, h3, h4⟩ := fits_of hf
    refine ⟨⟨ih1, rowsSl_nodup (by omega) _ (by omega), fun y hy y' hy' ee => ?_⟩, ?_⟩
    · subst ee
      obtain ⟨u, hu, e⟩ := List.mem_map.1 hy
      obtain ⟨a, ha, hua⟩ := List.mem_flatMap.1 hu
      have := List.all_eq_true.1 hfr a ha
      rw [(meets_iff (hall a ha) hf hR hC).2 ⟨y, List.mem_map.2 ⟨u, hua, e⟩, hy'⟩] at this
      cases this
    · have hl : ((slotsG x).map (·.1)).length = x.rows.toNat * x.cols.toNat := by rw [List.length_map]; exact rowsSl_len _ _ _ _
      rw [hl, Int.natCast_add, ih2, Int.natCast_mul, ← e3, ← e4]
theorem taken_full {g : G} (h : okB g = true) : (takenBy g.cells).Nodup ∧ ((takenBy g.cells).length : Int) = areaOf g.cells := by
  unfold okB at h
  rw [Bool.and_eq_true] at h
  obtain ⟨hR1, hR2, hC1, hC2, hn⟩ := bounds_of h.1
  have := takenBy_nodup hR2 hC2 h.2 g.cells.length (Nat.le_refl _)
  rwa [List.take_length] at this

set_option maxRecDepth 100000 in
set_option maxHeartbeats 1000000 in
theorem implGrdEmpty (R C : Int) (ac : Option Addr) (cc : Nat) (gs : List GC) (w : World) {z : Nat} (h : GsAt w z (.slice ac gs.length cc) gs) :
    Calls Try.prog 9 #[.agg #[.int .i64 R, .int .i64 C, .slice ac gs.length cc]] w fun e w' => e = .returned (.int .i64 (emptyOf ⟨R, C, gs⟩)) ∧ Below w.heap.size w w' := by
  have K0 := Hid.intro (k_alloc (Below.refl w.heap.size w) (.cells #[.int .i64 R, .int .i64 C, .slice ac gs.length cc] 25))
  have H := Hid.intro (h.kept K0.out)
  clear h
  go_enter Try.func9, Try.ntmps9
  go_wp2_with fail
  refine (takersOf_any R C ac cc gs _ H.out).mono ?_
  rintro e w1 ⟨ho, hb1⟩
  have K1 := Hid.intro (k_trans K0.out hb1)
  have X1 := Hid.intro ((hb1.block w.heap.size (by simp)).trans (newestB _ _))
  clear hb1
  rcases ho with ⟨h1, rfl⟩ | ⟨h1, B, _, rfl, hT⟩
  · have HF := Hid.intro (emptyOf_no h1)
    clear h1
    go_wp2
    go_ret
    exact ⟨by rw [HF.out]; rfl, K1.out⟩
  · have HF := Hid.intro (emptyOf_ok h1)
    obtain ⟨hnd, har⟩ := taken_full h1
    have HA := Hid.intro har
    have hbd : boundsB R C gs.length = true := by
      have := h1
      simp only [okB, Bool.and_eq_true] at this
      exact this.1
    obtain ⟨hR1, hR2, hC1, hC2, hn⟩ := bounds_of hbd
    have hln := takenBy_len hR2 hC2 gs (by have := h1; simp only [okB, Bool.and_eq_true] at this; have h3 := okTo_fits (Nat.le_refl _) this.2; rwa [List.take_length] at h3)
    have hlb : (takenBy gs).length ≤ 40000 := by have : gs.length * 752 ≤ 40 * 752 := Nat.mul_le_mul_right _ hn; omega
    have hlen := hT.len hnd
    have g0 : w1.cell? ⟨w.heap.size, 0, none⟩ = some (.int .i64 R) := cellB X1.out
    have g1 : w1.cell? ⟨w.heap.size, 1, none⟩ = some (.int .i64 C) := cellB X1.out
    have hm1 : 0 ≤ R * C := Int.mul_nonneg (by omega) (by omega)
    have hm2 : R * C ≤ 8 * 94 := Int.mul_le_mul hR2 hC2 (by omega) (by omega)
    clear hT hnd hbd h1 hln har
    generalize takenBy gs = T at *
    go_wp2
    go_ret
    refine ⟨?_, K1.out⟩
    rw [HF.out, ← HA.out]
    rfl

theorem areaOf_le {R C : Int} (hR : R ≤ 8) (hC : C ≤ 94) : ∀ (gs : List GC), (∀ a ∈ gs, fitsB R C a = true) → ∀ n : Int, n ≤ gs.foldl (fun n x => n + x.rows * x.cols) n ∧ gs.foldl (fun n x => n + x.rows * x.cols) n ≤ n + gs.length * 752
  | [], _, n => by simp
  | a :: t, h, n => by
    obtain ⟨e1, e2, e3, e4, h1, h2, h3, h4⟩ := fits_of (h a (by simp))
    have m1 : 0 ≤ a.rows * a.cols := Int.mul_nonneg (by omega) (by omega)
    have m2 : a.rows * a.cols ≤ 8 * 94 := Int.mul_le_mul (by omega) (by omega) (by omega) (by omega)
    obtain ⟨i1, i2⟩ := areaOf_le hR hC t (fun b hb => h b (by simp [hb])) (n + a.rows * a.cols)
    simp only [List.foldl_cons, List.length_cons]
    omega

set_option maxRecDepth 100000 in
set_option maxHeartbeats 2000000 in
theorem specGrdEmpty (R C : Int) (ac : Option Addr) (cc : Nat) (gs : List GC) (w : World) {z : Nat} (h : GsAt w z (.slice ac gs.length cc) gs) :
    Calls Try.prog 10 #[.agg #[.int .i64 R, .int .i64 C, .slice ac gs.length cc]] w fun e w' => e = .returned (.int .i64 (emptyOf ⟨R, C, gs⟩)) ∧ Below w.heap.size w w' := by
  obtain ⟨_, _, _, hlen⟩ := At.form h
  unfold maxLen at hlen
  have K0 := Hid.intro (k_alloc (Below.refl w.heap.size w) (.cells #[.int .i64 R, .int .i64 C, .slice ac gs.length cc] 25))
  have H := Hid.intro h
  clear h
  have KO := Hid.intro (specGrdOk R C ac cc gs _ (H.out.kept K0.out))
  cases ho : okB ⟨R, C, gs⟩ with
  | false =>
    have HF := Hid.intro (emptyOf_no ho)
    rw [ho] at KO
    clear ho
    go_enter Try.func10, Try.ntmps10
    go_wp2_with fail
    refine KO.out.mono ?_
    rintro e w1 ⟨rfl, hb1⟩
    have K1 := Hid.intro (k_trans K0.out hb1)
    clear hb1
    go_wp2
    go_ret
    exact ⟨by rw [HF.out]; rfl, K1.out⟩
  | true =>
    have HF := Hid.intro (emptyOf_ok ho)
    rw [ho] at KO
    have ho2 := ho
    simp only [okB, Bool.and_eq_true] at ho2
    obtain ⟨hR1, hR2, hC1, hC2, hn⟩ := bounds_of ho2.1
    have HFit := Hid.intro (okTo_fits (Nat.le_refl _) ho2.2)
    have hm1 : 0 ≤ R * C := Int.mul_nonneg (by omega) (by omega)
    have hm2 : R * C ≤ 8 * 94 := Int.mul_le_mul hR2 hC2 (by omega) (by omega)
    have HArea : Hid (∀ k, k ≤ gs.length → 0 ≤ areaOf (gs.take k) ∧ areaOf (gs.take k) ≤ 40000) := fun k hk => by
      have := areaOf_le hR2 hC2 (gs.take k) (fun a ha => HFit.out a (by rw [List.take_length]; exact (List.take_sublist k gs).subset ha)) 0
      rw [List.length_take] at this
      unfold areaOf
      omega
    clear ho ho2
    go_enter Try.func10, Try.ntmps10
    go_wp2_with fail
    refine KO.out.mono ?_
    rintro e w1 ⟨rfl, hb1⟩
    have K1 := Hid.intro (k_trans K0.out hb1)
    have X1 := Hid.intro ((hb1.block w.heap.size (by simp)).trans (newestB _ _))
    clear hb1
    have g0 : w1.cell? ⟨w.heap.size, 0, none⟩ = some (.int .i64 R) := cellB X1.out
    have g1 : w1.cell? ⟨w.heap.size, 1, none⟩ = some (.int .i64 C) := cellB X1.out
    go_wp2_with fail
    go_loopw [4, 3] (fun i n W => ∃ k : Nat, k ≤ gs.length ∧ i = .int .i64 k ∧ n = .int .i64 (R * C - areaOf (gs.take k)) ∧ Hid (Below w.heap.size w W) ∧ Hid (W.heap[w.heap.size]? = some (.cells #[.int .i64 R, .int .i64 C, .slice ac gs.length cc] 25))) (fun i _ _ => gs.length - (intOf i).toNat)
    case atStart => exact ⟨0, Nat.zero_le _, rfl, by simp [areaOf], K1, X1⟩
    case round =>
      obtain ⟨k, hk, rfl, rfl, HB, HX⟩ := hrel
      have g2 : wr.cell? ⟨w.heap.size, 2, none⟩ = some (.slice ac gs.length cc) := cellB HX.out
      by_cases hlt : k < gs.length
      · have hlt' : (k : Int) < (gs.length : Int) := by omega
        have h0' : (0 : Int) ≤ (k : Int) := by omega
        obtain ⟨q, off, cap', e', hc1, hc2, hbl, hx, hs⟩ := At.get (H.out.kept HB.out) hlt
        simp only [Value.slice.injEq, true_and] at e'
        obtain ⟨rfl, rfl⟩ := e'
        have HS : Hid (areaOf (gs.take (k + 1)) = areaOf (gs.take k) + (gs.getD k dG).rows * (gs.getD k dG).cols) := by
          show areaOf (gs.take (k + 1)) = _
          rw [← areaOf_snoc, List.take_succ_eq_append_getElem hlt]
          simp [List.getD, hlt]
        have a1 := HArea.out k hk
        have a2 := HArea.out (k + 1) hlt
        rw [HS.out] at a2
        have hfit : fitsB R C (gs.getD k dG) = true := HFit.out _ (by rw [List.take_length]; simp [List.getD, hlt])
        obtain ⟨e1, e2, e3, e4, f1, f2, f3, f4⟩ := fits_of hfit
        generalize gs.getD k dG = x at *
        generalize areaOf (gs.take k) = A at *
        have m1 : 0 ≤ x.rows * x.cols := Int.mul_nonneg (by omega) (by omega)
        have m2 : x.rows * x.cols ≤ 8 * 94 := Int.mul_le_mul (by omega) (by omega) (by omega) (by omega)
        obtain ⟨x0, x1, x2, x3, x4⟩ := hx
        unfold maxLen at hc2
        clear hs hfit e1 e2 e3 e4 f1 f2 f3 f4
        have p5 : IntKind.i64.wrap (x.rows * x.cols) = x.rows * x.cols := by rw [IntKind.wrap_i64]; omega
        have p6 : IntKind.i64.wrap (R * C - A - x.rows * x.cols) = R * C - A - x.rows * x.cols := by rw [IntKind.wrap_i64]; omega
        clear a1 a2
        go_wp2_with fail
        go_quiet (fail)
        have HB2 := Hid.intro (k_drewN HB.out nq)
        have HX2 : Hid ((wr.drewN nq).heap[w.heap.size]? = _) := Hid.intro HX.out
        go_wp2
        go_roundw
        case rel => exact ⟨k + 1, by omega, by go_num, by rw [HS.out, ← Int.sub_sub], HB2, HX2⟩
        case measure => simp [intOf]; omega
      · obtain rfl : k = gs.length := by omega
        go_wp2
        go_ret
        refine ⟨?_, HB.out⟩
        rw [HF.out, List.take_length]
        rfl
end Go.Proofs.Ytggmjiddadjilac
namespace Go.Proofs.Ytggmjiddadjilac

/-- an interval of seven shuts no more than seven columns -/
theorem cnt7 (l : Int) (N : Nat) : (((List.range N).countP (fun c : Nat => decide (l ≤ (c : Int) ∧ (c : Int) < l + 7)) : Nat) : Int) ≤ max 0 (min 7 (N - l)) := by
  induction N with
  | zero => simp; omega
  | succ N ih =>
    rw [List.range_succ, List.countP_append, List.countP_cons, List.countP_nil]
    by_cases h : l ≤ (N : Int) ∧ (N : Int) < l + 7
    · rw [if_pos (decide_eq_true h)]; omega
    · rw [if_neg (by simpa using h)]; omega
theorem countP_or {α : Type} (p q : α → Bool) (l : List α) : l.countP (fun x => p x || q x) ≤ l.countP p + l.countP q := by
  induction l with
  | nil => simp
  | cons a t ih =>
    rw [List.countP_cons, List.countP_cons, List.countP_cons]
    cases p a <;> cases q a <;> simp <;> omega
theorem shut_cnt (N : Nat) : ∀ ls : List Int, (List.range N).countP (fun c : Nat => ls.any fun l => decide (l ≤ (c : Int) ∧ (c : Int) < l + 7)) ≤ 7 * ls.length
  | [] => by simp
  | l :: t => by
    have h1 := shut_cnt N t
    have h2 := cnt7 l N
    have h3 := countP_or (fun c : Nat => decide (l ≤ (c : Int) ∧ (c : Int) < l + 7)) (fun c : Nat => t.any fun l => decide (l ≤ (c : Int) ∧ (c : Int) < l + 7)) (List.range N)
    simp only [List.any_cons, List.length_cons]
    omega
theorem shut_some (ls : List Int) : ∃ c : Nat, c ≤ 7 * ls.length ∧ ∀ l ∈ ls, ¬ (l ≤ (c : Int) ∧ (c : Int) < l + 7) := by
  apply Classical.byContradiction
  intro hn
  have hall : ∀ c ∈ List.range (7 * ls.length + 1), (ls.any fun l => decide (l ≤ (c : Int) ∧ (c : Int) < l + 7)) = true := by
    intro c hc
    rw [List.mem_range] at hc
    apply Classical.byContradiction
    intro h
    refine hn ⟨c, by omega, fun l hl h2 => h ?_⟩
    exact List.any_eq_true.2 ⟨l, hl, decide_eq_true h2⟩
  have h1 := List.countP_eq_length.2 hall
  have h2 := shut_cnt (7 * ls.length + 1) ls
  rw [List.length_range] at h1
  omega
/-- a cell at another column -/
def atCol (x : GC) (c : Int) : GC := ⟨x.row, c, x.rows, x.cols, x.ins⟩
/-- whether two cells have a row in common -/
def rowMeets (a x : GC) : Bool := decide (a.row < x.row + x.rows) && decide (x.row < a.row + a.rows)
theorem free_exists (gs : List GC) (x : GC) (hx : 1 ≤ x.cols ∧ x.cols ≤ 4) (hg : ∀ a ∈ gs, 1 ≤ a.cols ∧ a.cols ≤ 4) : ∃ c : Nat, c ≤ 7 * (gs.filter fun a => rowMeets a x).length ∧ freeG gs (atCol x c) = true := by
  obtain ⟨c, h1, h2⟩ := shut_some ((gs.filter fun a => rowMeets a x).map fun a => a.col - x.cols + 1)
  rw [List.length_map] at h1
  refine ⟨c, h1, List.all_eq_true.2 fun a ha => ?_⟩
  cases hm : meetsB a (atCol x c) with
  | false => rfl
  | true =>
    exfalso
    unfold meetsB atCol at hm
    simp only [Bool.and_eq_true, decide_eq_true_eq] at hm
    have hc := hg a ha
    refine h2 (a.col - x.cols + 1) (List.mem_map.2 ⟨a, List.mem_filter.2 ⟨ha, ?_⟩, rfl⟩) (by omega)
    simp only [rowMeets, Bool.and_eq_true, decide_eq_true_eq]
    omega
/-- the first column, of so many, at which a cell is free -/
def ffreeN (N : Nat) (gs : List GC) (x : GC) : Nat := (List.range N).findIdx (fun c : Nat => freeG gs (atCol x c))
theorem ffreeN_le {N : Nat} {gs : List GC} {x : GC} {c : Nat} (hc : c < N) (h : freeG gs (atCol x c) = true) : ffreeN N gs x ≤ c ∧ freeG gs (atCol x (ffreeN N gs x)) = true ∧ ∀ k, k < ffreeN N gs x → freeG gs (atCol x (k : Nat)) = false := by
  have hl : ffreeN N gs x < (List.range N).length := List.findIdx_lt_length_of_exists ⟨c, List.mem_range.2 hc, h⟩
  have hno : ∀ k, k < ffreeN N gs x → freeG gs (atCol x (k : Nat)) = false := by
    intro k hk
    have := List.not_of_lt_findIdx (p := fun c : Nat => freeG gs (atCol x c)) (xs := List.range N) hk
    simpa using this
  refine ⟨?_, ?_, hno⟩
  · apply Classical.byContradiction
    intro hn
    have := hno c (by omega)
    rw [h] at this
    cases this
  · have e : (List.range N)[ffreeN N gs x]'hl = ffreeN N gs x := List.getElem_range hl
    have h1 : freeG gs (atCol x (((List.range N)[ffreeN N gs x]'hl : Nat) : Int)) = true := List.findIdx_getElem (p := fun c : Nat => freeG gs (atCol x c)) (xs := List.range N) (w := hl)
    rw [e] at h1
    exact h1
/-- the first column at which a cell is free -/
def ffree (gs : List GC) (x : GC) : Nat := ffreeN 1000 gs x
theorem ffree_le {gs : List GC} {x : GC} {c : Nat} (hc : c < 1000) (h : freeG gs (atCol x c) = true) : ffree gs x ≤ c ∧ freeG gs (atCol x (ffree gs x)) = true ∧ ∀ k, k < ffree gs x → freeG gs (atCol x (k : Nat)) = false := ffreeN_le hc h
/-- the row behind the part of a row -/
def endOf (t : T) (r : Nat) : Int := if (r : Int) < t.head then t.head else if (t.rows.length : Int) - t.foot ≤ r then t.rows.length else t.rows.length - t.foot
/-- a cell in its row, its column not yet known -/
def bare (r i : Nat) (e : Int) (x : C) : GC := ⟨r, 0, min x.r (e - r), x.c, i⟩
/-- a cell put at its place -/
def place (gs : List GC) (r i : Nat) (e : Int) (x : C) : GC := atCol (bare r i e x) (ffree gs (bare r i e x))
/-- the first cells of a row put at their places -/
def rowTo (e : Int) (r : Nat) (cs : List C) (gs : List GC) : Nat → List GC
  | 0 => gs
  | i + 1 => rowTo e r cs gs i ++ [place (rowTo e r cs gs i) r i e (cs.getD i dC)]
/-- the cells of the first rows put at their places -/
def gridTo (t : T) : Nat → List GC
  | 0 => []
  | r + 1 => rowTo (endOf t r) r (t.rows.getD r dR).cells (gridTo t r) (t.rows.getD r dR).cells.length
/-- how many columns there are -/
def colsOf (m : Int) (gs : List GC) : Int := gs.foldl (fun m a => max m (a.col + a.cols)) m
theorem colsOf_snoc (m : Int) (gs : List GC) (x : GC) : colsOf m (gs ++ [x]) = max (colsOf m gs) (x.col + x.cols) := by simp [colsOf]
/-- what a drawn table's cells are, where it is ok: few, over no more than three rows -/
structure Low (t : T) : Prop where
  rows : t.rows.length ≤ 8
  span : ∀ r ∈ t.rows, ∀ x ∈ r.cells, (1 ≤ x.c ∧ x.c ≤ 4) ∧ 1 ≤ x.r ∧ x.r ≤ 3
  few : ∃ k, ∀ i, (t.rows.getD i dR).cells.length ≤ if i = k then 5 else 4
  head : 0 ≤ t.head ∧ t.head ≤ t.rows.length
  foot : 0 ≤ t.foot ∧ t.head + t.foot ≤ t.rows.length
/-- a cell that stands in a grid of a drawn table -/
def Stands (n : Nat) (a : GC) : Prop := (0 ≤ a.row ∧ 1 ≤ a.rows ∧ a.rows ≤ 3 ∧ a.row + a.rows ≤ n) ∧ (0 ≤ a.col ∧ a.col ≤ 84) ∧ (1 ≤ a.cols ∧ a.cols ≤ 4) ∧ 0 ≤ a.ins ∧ a.ins ≤ 4
theorem endOf_bounds {t : T} (h : Low t) {r : Nat} (hr : r < t.rows.length) : (r : Int) < endOf t r ∧ endOf t r ≤ t.rows.length := by
  have h1 := h.head
  have h2 := h.foot
  unfold endOf
  split
  · omega
  · split <;> omega
/-- how many of the first rows' cells have a row -/
def cntRow (gs : List GC) (q : Int) : Nat := gs.countP fun a => decide (a.row = q)
theorem cntRow_snoc (gs : List GC) (x : GC) (q : Int) : cntRow (gs ++ [x]) q = cntRow gs q + if x.row = q then 1 else 0 := by
  simp [cntRow, List.countP_append, List.countP_cons]
/-- cells that have a row in common with one in row r begin in row r or one of the two above -/
theorem meet_cnt (r : Nat) (x : GC) (hx : x.row = r) : ∀ gs : List GC, (∀ a ∈ gs, a.row ≤ r ∧ a.rows ≤ 3) → (gs.filter fun a => rowMeets a x).length ≤ cntRow gs r + (cntRow gs ((r : Int) - 1) + cntRow gs ((r : Int) - 2))
  | [], _ => by simp
  | a :: t, h => by
    have ih := meet_cnt r x hx t (fun b hb => h b (by simp [hb]))
    have ha := h a (by simp)
    unfold cntRow at ih ⊢
    rw [List.countP_cons, List.countP_cons, List.countP_cons, List.filter_cons]
    split
    · rename_i hm
      simp only [rowMeets, Bool.and_eq_true, decide_eq_true_eq] at hm
      rw [List.length_cons]
      rcases (by omega : a.row = r ∨ a.row = (r : Int) - 1 ∨ a.row = (r : Int) - 2) with e | e | e
      · simp [e]; omega
      · simp [e]; omega
      · simp [e]; omega
    · omega
/-- what is known behind some rows and some cells of the next one -/
structure Part (t : T) (gs : List GC) (r i : Nat) : Prop where
  stands : ∀ a ∈ gs, Stands t.rows.length a ∧ a.row ≤ r
  cnt : ∀ q : Nat, cntRow gs q = if q < r then (t.rows.getD q dR).cells.length else if q = r then i else 0
  neg : ∀ q : Int, q < 0 → cntRow gs q = 0
theorem Part.few {t : T} {gs : List GC} {r i : Nat} (h : Part t gs r i) (hl : Low t) (hi : i < (t.rows.getD r dR).cells.length) (x : GC) (hx : x.row = r) : (gs.filter fun a => rowMeets a x).length ≤ 12 := by
  have h1 := meet_cnt r x hx gs (fun a ha => ⟨(h.stands a ha).2, (h.stands a ha).1.1.2.2.1⟩)
  obtain ⟨k, hk⟩ := hl.few
  have k0 := hk r
  have c0 := h.cnt r
  rw [if_neg (by omega), if_pos rfl] at c0
  have c1 : cntRow gs ((r : Int) - 1) ≤ if r - 1 = k ∧ 1 ≤ r then 5 else 4 := by
    by_cases hr : 1 ≤ r
    · have e := h.cnt (r - 1)
      rw [if_pos (by omega), show ((r - 1 : Nat) : Int) = (r : Int) - 1 by omega] at e
      have := hk (r - 1)
      split at this <;> split <;> omega
    · rw [h.neg _ (by omega)]; omega
  have c2 : cntRow gs ((r : Int) - 2) ≤ if r - 2 = k ∧ 2 ≤ r then 5 else 4 := by
    by_cases hr : 2 ≤ r
    · have e := h.cnt (r - 2)
      rw [if_pos (by omega), show ((r - 2 : Nat) : Int) = (r : Int) - 2 by omega] at e
      have := hk (r - 2)
      split at this <;> split <;> omega
    · rw [h.neg _ (by omega)]; omega
  split at k0 <;> split at c1 <;> split at c2 <;> omega
theorem getD_mem' {α : Type} {l : List α} {i : Nat} {d : α} (h : i < l.length) : l.getD i d ∈ l := by
  have e : l.getD i d = l[i] := by simp [List.getD, h]
  rw [e]; exact List.getElem_mem _
/-- the next cell: it finds its column ahead of the 85th -/
theorem Part.next {t : T} {gs : List GC} {r i : Nat} (h : Part t gs r i) (hl : Low t) (hr : r < t.rows.length) (hi : i < (t.rows.getD r dR).cells.length) :
    (let x := bare r i (endOf t r) ((t.rows.getD r dR).cells.getD i dC)
     ffree gs x ≤ 84 ∧ freeG gs (atCol x (ffree gs x)) = true ∧ (∀ k, k < ffree gs x → freeG gs (atCol x (k : Nat)) = false) ∧ ∀ k : Nat, k ≤ 84 → Stands t.rows.length (atCol x k)) ∧
    Part t (gs ++ [place gs r i (endOf t r) ((t.rows.getD r dR).cells.getD i dC)]) r (i + 1) := by
  have hm := getD_mem' (d := dR) hr
  have hx := hl.span _ hm _ (getD_mem' (d := dC) hi)
  have he := endOf_bounds hl hr
  have hi5 : i ≤ 4 := by
    obtain ⟨k, hk⟩ := hl.few
    have := hk r
    split at this <;> omega
  dsimp only
  generalize hX : (t.rows.getD r dR).cells.getD i dC = x at hx
  have hf := h.few hl hi (bare r i (endOf t r) x) rfl
  obtain ⟨c, hc, hfree⟩ := free_exists gs (bare r i (endOf t r) x) hx.1 (fun a ha => (h.stands a ha).1.2.2.1)
  obtain ⟨f1, f2, f3⟩ := ffree_le (by omega) hfree
  have hst : ∀ k : Nat, k ≤ 84 → Stands t.rows.length (atCol (bare r i (endOf t r) x) k) := by
    intro k hk
    simp only [Stands, atCol, bare]
    omega
  refine ⟨⟨by omega, f2, f3, hst⟩, ?_, ?_, ?_⟩
  · intro a ha
    rcases List.mem_append.1 ha with ha | ha
    · exact h.stands a ha
    · simp at ha
      subst ha
      exact ⟨hst _ (by omega), Int.le_refl _⟩
  · intro q
    have hrow : (place gs r i (endOf t r) x).row = (r : Int) := rfl
    rw [cntRow_snoc, h.cnt q, hrow]
    by_cases h1 : q < r
    · rw [if_pos h1, if_pos h1, if_neg (by omega : ¬ (r : Int) = q), Nat.add_zero]
    · rw [if_neg h1, if_neg h1]
      by_cases h2 : q = r
      · subst h2; simp
      · rw [if_neg h2, if_neg h2, if_neg (by omega)]
  · intro q hq
    have hrow : (place gs r i (endOf t r) x).row = (r : Int) := rfl
    rw [cntRow_snoc, h.neg q hq, hrow, if_neg (by omega)]
theorem Part.zero (t : T) : Part t [] 0 0 := ⟨fun a ha => (by cases ha), fun q => (by simp [cntRow]), fun q _ => (by simp [cntRow])⟩
theorem Part.rowEnd {t : T} {gs : List GC} {r : Nat} (h : Part t gs r (t.rows.getD r dR).cells.length) : Part t gs (r + 1) 0 := by
  refine ⟨fun a ha => ⟨(h.stands a ha).1, by have := (h.stands a ha).2; omega⟩, fun q => ?_, h.neg⟩
  rw [h.cnt q]
  by_cases h1 : q < r
  · rw [if_pos h1, if_pos (by omega)]
  · rw [if_neg h1]
    by_cases h2 : q = r
    · subst h2; simp
    · rw [if_neg h2, if_neg (by omega)]
      split <;> rfl
theorem part_row {t : T} (hl : Low t) {r : Nat} (hr : r < t.rows.length) (h : Part t (gridTo t r) r 0) : ∀ i, i ≤ (t.rows.getD r dR).cells.length → Part t (rowTo (endOf t r) r (t.rows.getD r dR).cells (gridTo t r) i) r i
  | 0, _ => h
  | i + 1, hi => (Part.next (part_row hl hr h i (by omega)) hl hr (by omega)).2
theorem part_grid {t : T} (hl : Low t) : ∀ r, r ≤ t.rows.length → Part t (gridTo t r) r 0
  | 0, _ => Part.zero t
  | r + 1, hr => (part_row hl (by omega) (part_grid hl r (by omega)) _ (Nat.le_refl _)).rowEnd
theorem rowTo_len (e : Int) (r : Nat) (cs : List C) (gs : List GC) (i : Nat) : (rowTo e r cs gs i).length = gs.length + i := by
  induction i with
  | zero => rfl
  | succ i ih => simp only [rowTo, List.length_append, ih, List.length_cons, List.length_nil]; omega
theorem grid_len {t : T} (hl : Low t) (r : Nat) : (gridTo t r).length ≤ 5 * r := by
  induction r with
  | zero => simp [gridTo]
  | succ r ih =>
    obtain ⟨k, hk⟩ := hl.few
    have := hk r
    simp only [gridTo, rowTo_len]
    split at this <;> omega
/-- the grid of a drawn table -/
def gridOf (t : T) : List GC := gridTo t t.rows.length
end Go.Proofs.Ytggmjiddadjilac
namespace Go.Proofs.Ytggmjiddadjilac
open Go.RowKit

theorem l1Max_any (a b : Int) (w : World) : Calls Try.prog 74 #[.int .i64 a, .int .i64 b] w fun e w' => e = .returned (.int .i64 (max a b)) ∧ w' = w := by
  by_cases h : b < a
  · have HE : Hid (max a b = a) := Hid.intro (by omega)
    go_enter Try.func74, Try.ntmps74
    go_wp2
    go_ret
    exact ⟨retI64 HE.out.symm, rfl⟩
  · have HE : Hid (max a b = b) := Hid.intro (by omega)
    go_enter Try.func74, Try.ntmps74
    go_wp2
    go_ret
    exact ⟨retI64 HE.out.symm, rfl⟩
set_option maxRecDepth 100000 in
set_option maxHeartbeats 1000000 in
theorem l2End_any (ac ar : Option Addr) (cc cr : Nat) (t : T) (hb : t.rows.length ≤ 8 ∧ 0 ≤ t.foot ∧ t.foot ≤ t.rows.length) (r : Nat) (w : World) :
    Calls Try.prog 75 #[.agg #[.slice ac t.cols.length cc, .int .i64 t.head, .int .i64 t.foot, .slice ar t.rows.length cr, .int .i64 t.gap], .int .i64 (r : Int)] w fun e w' => e = .returned (.int .i64 (endOf t r)) ∧ Below w.heap.size w w' := by
  obtain ⟨h1, h2, h3⟩ := hb
  by_cases c1 : (r : Int) < t.head
  · have HE : Hid (endOf t r = t.head) := Hid.intro (by unfold endOf; rw [if_pos c1])
    go_enter Try.func75, Try.ntmps75
    go_wp2
    go_ret
    exact ⟨retI64 HE.out.symm, by repeat (first | exact Below.refl _ _ | apply k_alloc)⟩
  · by_cases c2 : (t.rows.length : Int) - t.foot ≤ r
    · have HE : Hid (endOf t r = t.rows.length) := Hid.intro (by unfold endOf; rw [if_neg c1, if_pos c2])
      go_enter Try.func75, Try.ntmps75
      go_wp2
      go_ret
      exact ⟨retI64 HE.out.symm, by repeat (first | exact Below.refl _ _ | apply k_alloc)⟩
    · have HE : Hid (endOf t r = t.rows.length - t.foot) := Hid.intro (by unfold endOf; rw [if_neg c1, if_neg c2])
      go_enter Try.func75, Try.ntmps75
      go_wp2
      go_ret
      exact ⟨retI64 HE.out.symm, by repeat (first | exact Below.refl _ _ | apply k_alloc)⟩
/-- a cell's five cells -/
def gcVs (x : GC) : List Value := [.int .i64 x.row, .int .i64 x.col, .int .i64 x.rows, .int .i64 x.cols, .int .i64 x.ins]
def OwnG (w : World) (base : Nat) (v : Value) (gs : List GC) : Prop := w.ownsRow base 35 5 v gs.length (gs.flatMap gcVs)
theorem OwnG.at {w : World} {base : Nat} {v : Value} {gs : List GC} (h : OwnG w base v gs) (hs : ∀ x ∈ gs, GOk x) : GsAt w base v gs := by
  rcases h.2 with ⟨rfl, hn⟩ | ⟨g, cap, cur, rfl, hg, hc, h1, h2, _⟩
  · exact ⟨none, 0, by rw [hn], by omega, by unfold maxLen; omega, fun i hi => by omega⟩
  · refine ⟨_, cap, rfl, h1, h2, fun i hi => ⟨g, 0, rfl, (Array.getElem?_eq_some_iff.1 hc).1, hg, ?_, ?_⟩⟩
    · have hx : ∀ j, j < 5 → w.cell? ⟨g, i * 5 + j, none⟩ = (gcVs gs[i])[j]? := fun j hj => by
        have e := flat_get gcVs 5 (fun _ => rfl) gs i hi j hj
        rw [row_cell h (u := (gcVs gs[i])[j]'(by show j < 5; exact hj)) (by rw [e]; simp)]
        simp
      rw [getD_get dG hi, Nat.zero_add]
      exact ⟨hx 0 (by omega), hx 1 (by omega), hx 2 (by omega), hx 3 (by omega), hx 4 (by omega)⟩
    · rw [getD_get dG hi]
      exact hs _ (List.getElem_mem hi)
theorem Stands.gok {n : Nat} {a : GC} (hn : n ≤ 8) (h : Stands n a) : GOk a := by
  unfold Stands at h
  unfold GOk I64
  omega
theorem Stands.sm {n : Nat} {a : GC} (hn : n ≤ 8) (h : Stands n a) : Sm a := by
  unfold Stands at h
  unfold Sm
  omega
theorem infoGC : (Try.prog.info? 35).map (fun i => (i.zero, i.size, i.bytes)) = some (some (Value.agg #[.int .i64 0, .int .i64 0, .int .i64 0, .int .i64 0, .int .i64 0]), 5, 40) := by kernel_rfl
end Go.Proofs.Ytggmjiddadjilac
