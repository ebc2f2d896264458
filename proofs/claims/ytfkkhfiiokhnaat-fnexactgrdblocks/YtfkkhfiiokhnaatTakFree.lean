/-
  PROVED HERE: what the program's allFree answers: whether none of a cell's slots is in the map; nothing that was in memory is turned.
-/
import Derived.Test.YtfkkhfiiokhnaatTak
namespace Go.Proofs.Ytfkkhfiiokhnaat
open Go.RowKit Go.Shelf
attribute [local go_sem] Oper.semAt_some

/-- a block of cells abides what turns blocks that are none -/
theorem obj_own {β : Type} (B : Nat) (f : β → Obj) (hf : ∀ s, (f s).isCells = true) : Own (fun s W => W.heap[B]? = some (f s)) := fun s X Y row hs hg hrow =>
  (hg.block B (Array.getElem?_eq_some_iff.1 hs).1 (fun e' => by obtain ⟨o, ho, hc⟩ := hrow B e'.symm; rw [hs] at ho; cases ho; rw [hf] at hc; cases hc)).trans hs
theorem size_own {β : Type} (B n : Nat) : OwnFrom B (fun (_ : β) W => n ≤ W.heap.size) := fun _ _ _ _ hs hg _ => Nat.le_trans hs hg.size
theorem boxC_own {β : Type} (B : Nat) (t : TypeId) (v : Value) : Own (fun (_ : β) W => Boxed W B t v) := boxed_own B t (fun _ => v)
/-- whether none of a cell's slots is taken -/
def freeIn (L : List (Nat × Nat)) (r c rs cs : Nat) : Bool := (rowsSl r c cs rs).all fun x => decide (x.1 ∉ L)

set_option maxRecDepth 100000 in
set_option maxHeartbeats 2000000 in
theorem allFree_any (r c rs cs : Nat) (i : Int) (hr : r + rs ≤ 1000) (hc : c + cs ≤ 1000) (w : World) (B : Nat) (L : List (Nat × Nat)) (hT : TakAt w B L) :
    Calls Try.prog 39 #[.map (some B), gcV r c rs cs i] w fun e w' => e = .returned (.bool (freeIn L r c rs cs)) ∧ Below w.heap.size w w' := by
  have hlt := hT.lt
  refine (callsIn_wide (n := 4)).1 ?_
  unfold gcV
  refine callsIn_of_wp_marks Try.func39 rfl trivial ?_ rfl
  simp only [Try.ntmps39, List.size_toArray, List.length_cons, List.length_nil, Nat.reduceAdd, Nat.reduceSub, Array.replicate_succ, Array.replicate_zero, List.push_toArray, List.append_toArray, List.nil_append, List.cons_append]
  gi_wp2_with (refine ⟨trivial, ?_⟩; gi_at_call 44; refine (callsIn_wide.2 (slotsOf_any r c rs cs i _)).mono ?_; rintro e w' ⟨rfl, rfl⟩)
  obtain ⟨W0, hW0⟩ : ∃ W0, ((((w.alloc (.cells #[.map (some B)] 49)).alloc (.cells #[.int .i64 r, .int .i64 c, .int .i64 rs, .int .i64 cs, .int .i64 i] 43)).alloc (.cells #[.bool false] 4)).alloc (gcObj r c rs cs i)) = W0 := ⟨_, rfl⟩
  have hsz : W0.heap.size = w.heap.size + 4 := by rw [← hW0]; simp
  have hB0 : Below w.heap.size w W0 := by rw [← hW0]; exact k_alloc (k_alloc (k_alloc (k_alloc (Below.refl _ _) _) _) _) _
  have hx0 : Boxed W0 w.heap.size 49 (.map (some B)) := by
    rw [← hW0]; exact (((Boxed.new w _ _).alloc _).alloc _).alloc _
  have hx2 : Boxed W0 (w.heap.size + 2) 4 (.bool false) := by
    have := (Boxed.new ((w.alloc (.cells #[.map (some B)] 49)).alloc (.cells #[.int .i64 r, .int .i64 c, .int .i64 rs, .int .i64 cs, .int .i64 i] 43)) 4 (.bool false)).alloc (gcObj r c rs cs i)
    rw [hW0] at this
    simpa using this
  have hx3 : W0.heap[w.heap.size + 3]? = some (gcObj r c rs cs i) := by
    have := World.alloc_heap_new (((w.alloc (.cells #[.map (some B)] 49)).alloc (.cells #[.int .i64 r, .int .i64 c, .int .i64 rs, .int .i64 cs, .int .i64 i] 43)).alloc (.cells #[.bool false] 4)) (gcObj r c rs cs i)
    rw [hW0] at this
    simpa using this
  rw [hW0]
  clear hW0
  refine wpIn_rangeFunc_ownH rfl (by omega) (gf := 45) (lb := #[.pointer (some ⟨w.heap.size + 3, 0, none⟩)]) rfl trivial (enters_of Try.func45 (by kernel_rfl) rfl)
    (slots_stops (w.heap.size + 3) r c rs cs i hr hc W0 (by omega) hx3) (fun h k => BoxK.trans h k) (BoxK_b (by omega)) (Below.refl _ _) (fun _ => rfl)
    (fun pre W => (Boxed W w.heap.size 49 (.map (some B)) ∧ Boxed W (w.heap.size + 2) 4 (.bool false)) ∧ Below w.heap.size w W ∧ w.heap.size + 4 ≤ W.heap.size ∧ ∀ x ∈ pre, x.1 ∉ L)
    (fun c pre W => c = .ret ∧ Boxed W (w.heap.size + 2) 4 (.bool false) ∧ Below w.heap.size w W ∧ ∃ x ∈ pre, x.1 ∈ L)
    (OwnFrom.and (OwnFrom.and (Own.from (boxC_own _ _ _) _) (Own.from (boxC_own _ _ _) _)) (OwnFrom.and (ownFrom_below (Nat.le_refl _) (by omega)) (OwnFrom.and (size_own _ _) (ownFrom_pure _ _))))
    (fun c => OwnFrom.and (ownFrom_pure _ _) (OwnFrom.and (Own.from (boxC_own _ _ _) _) (OwnFrom.and (ownFrom_below (Nat.le_refl _) (by omega)) (ownFrom_pure _ _))))
    ⟨⟨hx0, hx2⟩, hB0, by omega, by simp⟩
    (fun x a' W => ∃ Bx, w.heap.size + 4 ≤ Bx ∧ W.heap[Bx]? = some (.cells #[.int .i64 x.1.1, .int .i64 x.1.2] 66) ∧
      a' = { tmps := #[.map (some B), gcV r c rs cs i, .pointer (some ⟨w.heap.size, 0, none⟩), .pointer (some ⟨w.heap.size + 1, 0, none⟩), .pointer (some ⟨w.heap.size + 1 + 1, 0, none⟩), .pointer (some ⟨Bx, 0, none⟩), gcV r c rs cs i, .func (.func 45) #[] #[.pointer (some ⟨w.heap.size + 1 + 1 + 1, 0, none⟩)], slV x.1, undef, undef, undef, undef], defers := [] })
    (fun x a' _ A B row hs hg hr => by
      obtain ⟨Bx, h1, h2, h3⟩ := hs
      exact ⟨Bx, h1, obj_own Bx (fun _ : Unit => .cells #[.int .i64 x.1.1, .int .i64 x.1.2] 66) (fun _ => rfl) () A B row h2 hg (fun r e => (hr r e).2), h3⟩)
    ?assign ?body ?done ?stop
  case assign =>
    rintro l pre x W K ⟨⟨hb1, hb2⟩, hB, hs4, hp⟩ hK
    dsimp only [slV]
    gi_wp2
    refine hK _ _ ((KeepsOthers.alloc _ _).from _) ?_ ⟨⟨hb1.alloc _, hb2.alloc _⟩, k_alloc hB _, by simp; omega, hp⟩ ⟨W.heap.size, hs4, World.alloc_heap_new _ _, rfl⟩
    show (W.alloc _).heap[w.heap.size + 3]? = _
    exact Below.heap_alloc _ _ _ (by omega)
  case body =>
    rintro l pre x a' W hl ⟨r, hr⟩ ⟨⟨hb1, hb2⟩, hB, hs4, hp⟩ ⟨Bx, h1, h2, rfl⟩ _
    have c1 := hb1.cell
    have c2 := hb2.cell
    have f2 := hb2.frozen
    have d0 : W.cell? ⟨Bx, 0, none⟩ = some (.int .i64 x.1.1) := by simp [World.cell?, h2]
    have d1 : W.cell? ⟨Bx, 1, none⟩ = some (.int .i64 x.1.2) := by simp [World.cell?, h2]
    have hlook := (hT.of_block (hB.block B hlt)).look x
    unfold slV at hlook
    by_cases hx : x.1 ∈ L
    · obtain ⟨m, hm⟩ : ∃ m, L.count x.1 = m + 1 := ⟨L.count x.1 - 1, by have := List.count_pos_iff.2 hx; omega⟩
      rw [hm] at hlook
      clear hm
      gi_wp2
      exact ⟨(KeepsOthers.setCell _ _ _).from _, rfl, hb2.set _, hB.setCell (p := ⟨w.heap.size + 1 + 1, 0, none⟩) (by simp; omega) _, x, by simp, hx⟩
    · rw [List.count_eq_zero.2 hx] at hlook
      gi_wp2
      exact ⟨(KeepsOthers.refl _).from _, rfl, ⟨hb1, hb2⟩, hB, hs4, fun y hy => by
        rcases List.mem_append.1 hy with h | h
        · exact hp y h
        · cases List.mem_singleton.1 h; exact hx⟩
  case done =>
    rintro D ys W hD rfl ⟨⟨hb1, hb2⟩, hB, hs4, hp⟩ hK
    have c2 := hb2.cell
    have f2 := hb2.frozen
    gi_wp2
    have hk2 := (KeepsOthers.setCell W ⟨w.heap.size + 1 + 1, 0, none⟩ (.bool true)).same D _ hK rfl
    refine ⟨by simp, .inl ⟨_, _, rfl, run_takeDeferred hk2, ?_⟩⟩
    have hc5 := cell_kept (hb2.set (.bool true)).cell (grownBy_putObj' _ D (.deferred none)) (fun r e => by cases e; exact ⟨_, hk2, rfl⟩)
    have hfr : freeIn L r c rs cs = true := List.all_eq_true.2 (fun x hx => decide_eq_true (hp x hx))
    refine ⟨.bool true, ?_, by rw [hfr], (hB.setCell (p := ⟨w.heap.size + 1 + 1, 0, none⟩) (by simp; omega) _).trans (belowK_b (w := w) (Nat.le_refl _) _ D _ _ (by omega) hk2 rfl rfl)⟩
    simp [results, Try.f39, go_sem, hc5]
  case stop =>
    rintro D c pre W hD hpre ⟨rfl, hb2, hB, x, hx, hxL⟩ hK
    have c2 := hb2.cell
    gi_wp2
    refine ⟨by simp, .inl ⟨_, _, rfl, run_takeDeferred hK, ?_⟩⟩
    have hc5 := cell_kept hb2.cell (grownBy_putObj' _ D (.deferred none)) (fun r e => by cases e; exact ⟨_, hK, rfl⟩)
    have hfr : freeIn L r c rs cs = false := by
      cases hf : freeIn L r c rs cs with
      | false => rfl
      | true => exact absurd hxL (of_decide_eq_true (List.all_eq_true.1 hf x (hpre.subset hx)))
    refine ⟨.bool false, ?_, by rw [hfr], hB.trans (belowK_b (w := w) (Nat.le_refl _) W D _ _ (by omega) hK rfl rfl)⟩
    simp [results, Try.f39, go_sem, hc5]
end Go.Proofs.Ytfkkhfiiokhnaat
