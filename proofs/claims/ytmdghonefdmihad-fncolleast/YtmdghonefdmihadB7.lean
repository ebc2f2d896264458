/-
  PROVED HERE: what the program's take does: each of a cell's slots is in the map once more; nothing else that was in memory is turned. Also: small facts on grids: whether a cell fits, whether cells meet, whether a grid is ok; cells meet just if they have a slot in common.
-/
import Derived.Test.YtmdghonefdmihadB6
namespace Go.Proofs.Ytmdghonefdmihad
open Go.RowKit Go.Shelf
attribute [local go_sem] Oper.semAt_some

theorem grown_own {β : Type} {B : Nat} {w : World} {row : Option Nat} (hB : w.heap.size ≤ B) : OwnFrom B (fun (_ : β) W => w.grownBy W row) := fun _ X Y row' hs hg hr =>
  ⟨hg.os.trans hs.os, hg.tape.trans hs.tape, hg.output.trans hs.output, Nat.le_trans hs.size hg.size, fun k hk hne => (hg.block k (Nat.lt_of_lt_of_le hk hs.size) (fun e => by have := (hr k e.symm).1; omega)).trans (hs.block k hk hne)⟩
theorem tak_own {β : Type} {B b : Nat} (hb : b < B) (f : β → List (Nat × Nat)) : OwnFrom B (fun s W => TakAt W b (f s)) := fun _ X Y row hs hg hr =>
  hs.of_block (hg.block b hs.lt (fun e => by have := (hr b e.symm).1; omega))
theorem grown_turned {w W W' : World} {B : Nat} (h : w.grownBy W (some B)) (m : W.mapTurned W' B) : w.grownBy W' (some B) :=
  ⟨m.grown.os.trans h.os, m.grown.tape.trans h.tape, m.grown.output.trans h.output, Nat.le_trans h.size m.grown.size, fun k hk hne => (m.grown.block k (Nat.lt_of_lt_of_le hk h.size) hne).trans (h.block k hk hne)⟩
theorem turned_block {W W' : World} {B k : Nat} (m : W.mapTurned W' B) (hne : k ≠ B) : W'.heap[k]? = W.heap[k]? := by
  obtain ⟨es, clock, es', clock', hb, rfl⟩ := m
  exact ChangeMaps.heap_setBlock_other hb _ hne

set_option maxRecDepth 100000 in
set_option maxHeartbeats 4000000 in
theorem take_any (r c rs cs : Nat) (i : Int) (hr : r + rs ≤ 1000) (hc : c + cs ≤ 1000) (w : World) (B : Nat) (L : List (Nat × Nat)) (hT : TakAt w B L) (hL : L.length + (rowsSl r c cs rs).length < 1000000) :
    Calls Try.prog 58 #[.map (some B), gcV r c rs cs i] w fun e w' => (∃ v, e = .returned v) ∧ TakAt w' B (L ++ (rowsSl r c cs rs).map (·.1)) ∧ w.grownBy w' (some B) := by
  have hlt := hT.lt
  refine (callsIn_wide (n := 4)).1 ?_
  unfold gcV
  refine callsIn_of_wp_marks Try.func58 rfl trivial ?_ rfl
  simp only [Try.ntmps58, List.size_toArray, List.length_cons, List.length_nil, Nat.reduceAdd, Nat.reduceSub, Array.replicate_succ, Array.replicate_zero, List.push_toArray, List.append_toArray, List.nil_append, List.cons_append]
  gi_wp2_with (refine ⟨trivial, ?_⟩; gi_at_call 85; refine (callsIn_wide.2 (slotsOf_any r c rs cs i _)).mono ?_; rintro e w' ⟨rfl, rfl⟩)
  obtain ⟨W0, hW0⟩ : ∃ W0, (((w.alloc (.cells #[.map (some B)] 77)).alloc (.cells #[.int .i64 r, .int .i64 c, .int .i64 rs, .int .i64 cs, .int .i64 i] 50)).alloc (gcObj r c rs cs i)) = W0 := ⟨_, rfl⟩
  have hsz : W0.heap.size = w.heap.size + 3 := by rw [← hW0]; simp
  have hB0 : w.grownBy W0 (some B) := by
    have h1 := World.grownBy_alloc w (.cells #[.map (some B)] 77) none
    have h2 := World.grownBy_alloc (w.alloc (.cells #[.map (some B)] 77)) (.cells #[.int .i64 r, .int .i64 c, .int .i64 rs, .int .i64 cs, .int .i64 i] 50) none
    have h3 := World.grownBy_alloc ((w.alloc (.cells #[.map (some B)] 77)).alloc (.cells #[.int .i64 r, .int .i64 c, .int .i64 rs, .int .i64 cs, .int .i64 i] 50)) (gcObj r c rs cs i) none
    rw [hW0] at h3
    exact ((h1.trans h2).trans h3).but _
  have hx0 : Boxed W0 w.heap.size 77 (.map (some B)) := by
    rw [← hW0]; exact ((Boxed.new w _ _).alloc _).alloc _
  have hx3 : W0.heap[w.heap.size + 2]? = some (gcObj r c rs cs i) := by
    have := World.alloc_heap_new ((w.alloc (.cells #[.map (some B)] 77)).alloc (.cells #[.int .i64 r, .int .i64 c, .int .i64 rs, .int .i64 cs, .int .i64 i] 50)) (gcObj r c rs cs i)
    rw [hW0] at this
    simpa using this
  have hT0 : TakAt W0 B L := by
    refine hT.of_block ?_
    rw [← hW0, Below.heap_alloc _ _ _ (by simp; omega), Below.heap_alloc _ _ _ (by simp; omega), Below.heap_alloc _ _ _ hlt]
  rw [hW0]
  clear hW0
  refine wpIn_rangeFunc_ownH rfl (by omega) (gf := 102) (lb := #[.pointer (some ⟨w.heap.size + 2, 0, none⟩)]) rfl trivial (enters_of Try.func102 (by kernel_rfl) rfl)
    (slots_stops (w.heap.size + 2) r c rs cs i hr hc W0 (by omega) hx3) (fun h k => BoxK.trans h k) (BoxK_b (by omega)) (Below.refl _ _) (fun _ => rfl)
    (fun pre W => Boxed W w.heap.size 77 (.map (some B)) ∧ TakAt W B (L ++ pre.map (·.1)) ∧ w.grownBy W (some B) ∧ w.heap.size + 3 ≤ W.heap.size)
    (fun _ _ _ => False)
    (OwnFrom.and (Own.from (boxC_own _ _ _) _) (OwnFrom.and (tak_own (by omega) (fun pre : List Sl => L ++ pre.map (·.1))) (OwnFrom.and (grown_own (by omega)) (size_own _ _))))
    (fun _ _ _ _ _ hs _ _ => hs)
    ⟨hx0, by simpa using hT0, hB0, by omega⟩
    (fun x a' W => ∃ Bx, w.heap.size + 3 ≤ Bx ∧ W.heap[Bx]? = some (.cells #[.int .i64 x.1.1, .int .i64 x.1.2] 112) ∧
      a' = { tmps := #[.map (some B), gcV r c rs cs i, .pointer (some ⟨w.heap.size, 0, none⟩), .pointer (some ⟨w.heap.size + 1, 0, none⟩), .pointer (some ⟨Bx, 0, none⟩), gcV r c rs cs i, .func (.func 102) #[] #[.pointer (some ⟨w.heap.size + 1 + 1, 0, none⟩)], slV x.1, undef, undef, undef, undef, undef, undef], defers := [] })
    (fun x a' _ A B row hs hg hr => by
      obtain ⟨Bx, h1, h2, h3⟩ := hs
      exact ⟨Bx, h1, obj_own Bx (fun _ : Unit => .cells #[.int .i64 x.1.1, .int .i64 x.1.2] 112) (fun _ => rfl) () A B row h2 hg (fun r e => (hr r e).2), h3⟩)
    ?assign ?body ?done ?stop
  case assign =>
    rintro l pre x W K ⟨hb1, hT1, hB, hs4⟩ hK
    dsimp only [slV]
    gi_wp2
    refine hK _ _ ((KeepsOthers.alloc _ _).from _) ?_ ⟨hb1.alloc _, hT1.of_block (Below.heap_alloc _ _ _ hT1.lt), grown_own (β := Unit) (Nat.le_refl _) () _ _ none hB (World.grownBy_alloc _ _ none) (fun r e => by cases e), by simp; omega⟩ ⟨W.heap.size, hs4, World.alloc_heap_new _ _, rfl⟩
    show (W.alloc _).heap[w.heap.size + 2]? = _
    exact Below.heap_alloc _ _ _ (by omega)
  case body =>
    rintro l pre x a' W hl ⟨q, hq⟩ ⟨hb1, hT1, hB, hs4⟩ ⟨Bx, h1, h2, rfl⟩ hpl
    have hlen : (L ++ pre.map (·.1)).length < 1000000 := by simp; omega
    have e0 := (show TakAt W.drew B _ from hT1).look x
    obtain ⟨v0, st, w1, w2, e1, e2, m1, e3, hT2, m2⟩ := (show TakAt W.drew B _ from hT1).step x hlen
    have hcl := List.count_le_length (a := x.1) (l := L ++ pre.map (·.1))
    have hcnt : (List.count x.1 (L ++ pre.map (·.1))) < 1000000 := by omega
    generalize (List.count x.1 (L ++ pre.map (·.1))) = cn at *
    have hBx : Bx ≠ B := by omega
    have hn0 : w.heap.size ≠ B := by omega
    have c1 : W.drew.cell? ⟨w.heap.size, 0, none⟩ = some (.map (some B)) := hb1.cell
    have d0 : W.drew.cell? ⟨Bx, 0, none⟩ = some (.int .i64 x.1.1) := by
      have h : W.drew.heap[Bx]? = _ := h2
      simp [World.cell?, h]
    have d1 : W.drew.cell? ⟨Bx, 1, none⟩ = some (.int .i64 x.1.2) := by
      have h : W.drew.heap[Bx]? = _ := h2
      simp [World.cell?, h]
    have HE := Hid.intro (show KeepsFrom W0.heap.size W w2 ∧ BoxK (w.heap.size + 2) W w2 ∧ (Boxed w2 w.heap.size 77 (.map (some B)) ∧ TakAt w2 B (L ++ (pre ++ [x]).map (·.1)) ∧ w.grownBy w2 (some B) ∧ w.heap.size + 3 ≤ w2.heap.size) from by
      have hg : W.grownBy w2 (some B) := ⟨m2.grown.os, m2.grown.tape, m2.grown.output, m2.grown.size, m2.grown.block⟩
      refine ⟨KeepsFrom.of_grownBy hg (fun j e => by cases e; omega), ?_, hb1.kept hg (by simp; omega), by simpa using hT2, ?_, Nat.le_trans hs4 hg.size⟩
      · exact turned_block (W := W.drew) m2 (by omega)
      · exact ⟨hg.os.trans hB.os, hg.tape.trans hB.tape, hg.output.trans hB.output, Nat.le_trans hB.size hg.size, fun k hk hne => (hg.block k (Nat.lt_of_lt_of_le hk hB.size) hne).trans (hB.block k hk hne)⟩)
    have hmx : Try.prog.follows .mixedOrders = true := by kernel_rfl
    unfold slV at e0 e1 e2
    simp only [goInt] at e1 e3
    have hwr : IntKind.i64.wrap ((cn : Int) + 1) = (cn : Int) + 1 := by rw [IntKind.wrap_i64]; omega
    rw [← hwr] at e3
    clear hT2 m1 m2 hB hT1 hb1 h2 hcl hq hwr
    gi_wp2
    refine wpIn_region_any hmx ?_
    change wpAnyIn _ _ _ _ _ _ _ _ _ (World.drew _)
    refine wpAnyIn_ready (rs := [0, 1]) (by kernel_rfl) (by simp) (AllReadyIn.cons rfl (fun K hK => ?_) (AllReadyIn.cons rfl (fun K hK => ?_) (fun _ hj => by cases hj)))
    · go_simp
      refine hK _ _ ?_
      clear hK K
      refine ready1 (i := 1) (by kernel_rfl) rfl (fun K hK => ?_)
      go_simp
      refine hK _ _ ?_
      clear hK K
      refine wpAnyIn_ready (rs := [2, 4]) (by kernel_rfl) (by simp) (AllReadyIn.cons rfl (fun K hK => ?_) (AllReadyIn.cons rfl (fun K hK => ?_) (fun _ hj => by cases hj)))
      · go_simp
        refine hK _ _ ?_
        clear hK K
        refine wpAnyIn_ready (rs := [3, 4]) (by kernel_rfl) (by simp) (AllReadyIn.cons rfl (fun K hK => ?_) (AllReadyIn.cons rfl (fun K hK => ?_) (fun _ hj => by cases hj)))
        · go_simp
          refine hK _ _ ?_
          clear hK K
          refine ready1 (i := 4) (by kernel_rfl) rfl (fun K hK => ?_)
          go_simp
          refine hK _ _ ?_
          clear hK K
          refine ready1 (i := 5) (by kernel_rfl) rfl (fun K hK => ?_)
          go_simp
          refine hK _ _ ?_
          clear hK K
          refine ready1 (i := 6) (by kernel_rfl) rfl (fun K hK => ?_)
          go_simp
          refine hK _ _ ?_
          clear hK K
          refine wpAnyIn_done (by kernel_rfl) ?_ _
          exact HE.out
        · go_simp
          refine hK _ _ ?_
          clear hK K
          refine wpAnyIn_ready (rs := [3, 5]) (by kernel_rfl) (by simp) (AllReadyIn.cons rfl (fun K hK => ?_) (AllReadyIn.cons rfl (fun K hK => ?_) (fun _ hj => by cases hj)))
          · go_simp
            refine hK _ _ ?_
            clear hK K
            refine ready1 (i := 5) (by kernel_rfl) rfl (fun K hK => ?_)
            go_simp
            refine hK _ _ ?_
            clear hK K
            refine ready1 (i := 6) (by kernel_rfl) rfl (fun K hK => ?_)
            go_simp
            refine hK _ _ ?_
            clear hK K
            refine wpAnyIn_done (by kernel_rfl) ?_ _
            exact HE.out
          · go_simp
            refine hK _ _ ?_
            clear hK K
            refine ready1 (i := 3) (by kernel_rfl) rfl (fun K hK => ?_)
            go_simp
            refine hK _ _ ?_
            clear hK K
            refine ready1 (i := 6) (by kernel_rfl) rfl (fun K hK => ?_)
            go_simp
            refine hK _ _ ?_
            clear hK K
            refine wpAnyIn_done (by kernel_rfl) ?_ _
            exact HE.out
      · go_simp
        refine hK _ _ ?_
        clear hK K
        refine wpAnyIn_ready (rs := [2, 5]) (by kernel_rfl) (by simp) (AllReadyIn.cons rfl (fun K hK => ?_) (AllReadyIn.cons rfl (fun K hK => ?_) (fun _ hj => by cases hj)))
        · go_simp
          refine hK _ _ ?_
          clear hK K
          refine wpAnyIn_ready (rs := [3, 5]) (by kernel_rfl) (by simp) (AllReadyIn.cons rfl (fun K hK => ?_) (AllReadyIn.cons rfl (fun K hK => ?_) (fun _ hj => by cases hj)))
          · go_simp
            refine hK _ _ ?_
            clear hK K
            refine ready1 (i := 5) (by kernel_rfl) rfl (fun K hK => ?_)
            go_simp
            refine hK _ _ ?_
            clear hK K
            refine ready1 (i := 6) (by kernel_rfl) rfl (fun K hK => ?_)
            go_simp
            refine hK _ _ ?_
            clear hK K
            refine wpAnyIn_done (by kernel_rfl) ?_ _
            exact HE.out
          · go_simp
            refine hK _ _ ?_
            clear hK K
            refine ready1 (i := 3) (by kernel_rfl) rfl (fun K hK => ?_)
            go_simp
            refine hK _ _ ?_
            clear hK K
            refine ready1 (i := 6) (by kernel_rfl) rfl (fun K hK => ?_)
            go_simp
            refine hK _ _ ?_
            clear hK K
            refine wpAnyIn_done (by kernel_rfl) ?_ _
            exact HE.out
        · go_simp
          refine hK _ _ ?_
          clear hK K
          refine ready1 (i := 2) (by kernel_rfl) rfl (fun K hK => ?_)
          go_simp
          refine hK _ _ ?_
          clear hK K
          refine ready1 (i := 3) (by kernel_rfl) rfl (fun K hK => ?_)
          go_simp
          refine hK _ _ ?_
          clear hK K
          refine ready1 (i := 6) (by kernel_rfl) rfl (fun K hK => ?_)
          go_simp
          refine hK _ _ ?_
          clear hK K
          refine wpAnyIn_done (by kernel_rfl) ?_ _
          exact HE.out
    · go_simp
      refine hK _ _ ?_
      clear hK K
      refine ready1 (i := 0) (by kernel_rfl) rfl (fun K hK => ?_)
      go_simp
      refine hK _ _ ?_
      clear hK K
      refine wpAnyIn_ready (rs := [2, 4]) (by kernel_rfl) (by simp) (AllReadyIn.cons rfl (fun K hK => ?_) (AllReadyIn.cons rfl (fun K hK => ?_) (fun _ hj => by cases hj)))
      · go_simp
        refine hK _ _ ?_
        clear hK K
        refine wpAnyIn_ready (rs := [3, 4]) (by kernel_rfl) (by simp) (AllReadyIn.cons rfl (fun K hK => ?_) (AllReadyIn.cons rfl (fun K hK => ?_) (fun _ hj => by cases hj)))
        · go_simp
          refine hK _ _ ?_
          clear hK K
          refine ready1 (i := 4) (by kernel_rfl) rfl (fun K hK => ?_)
          go_simp
          refine hK _ _ ?_
          clear hK K
          refine ready1 (i := 5) (by kernel_rfl) rfl (fun K hK => ?_)
          go_simp
          refine hK _ _ ?_
          clear hK K
          refine ready1 (i := 6) (by kernel_rfl) rfl (fun K hK => ?_)
          go_simp
          refine hK _ _ ?_
          clear hK K
          refine wpAnyIn_done (by kernel_rfl) ?_ _
          exact HE.out
        · go_simp
          refine hK _ _ ?_
          clear hK K
          refine wpAnyIn_ready (rs := [3, 5]) (by kernel_rfl) (by simp) (AllReadyIn.cons rfl (fun K hK => ?_) (AllReadyIn.cons rfl (fun K hK => ?_) (fun _ hj => by cases hj)))
          · go_simp
            refine hK _ _ ?_
            clear hK K
            refine ready1 (i := 5) (by kernel_rfl) rfl (fun K hK => ?_)
            go_simp
            refine hK _ _ ?_
            clear hK K
            refine ready1 (i := 6) (by kernel_rfl) rfl (fun K hK => ?_)
            go_simp
            refine hK _ _ ?_
            clear hK K
            refine wpAnyIn_done (by kernel_rfl) ?_ _
            exact HE.out
          · go_simp
            refine hK _ _ ?_
            clear hK K
            refine ready1 (i := 3) (by kernel_rfl) rfl (fun K hK => ?_)
            go_simp
            refine hK _ _ ?_
            clear hK K
            refine ready1 (i := 6) (by kernel_rfl) rfl (fun K hK => ?_)
            go_simp
            refine hK _ _ ?_
            clear hK K
            refine wpAnyIn_done (by kernel_rfl) ?_ _
            exact HE.out
      · go_simp
        refine hK _ _ ?_
        clear hK K
        refine wpAnyIn_ready (rs := [2, 5]) (by kernel_rfl) (by simp) (AllReadyIn.cons rfl (fun K hK => ?_) (AllReadyIn.cons rfl (fun K hK => ?_) (fun _ hj => by cases hj)))
        · go_simp
          refine hK _ _ ?_
          clear hK K
          refine wpAnyIn_ready (rs := [3, 5]) (by kernel_rfl) (by simp) (AllReadyIn.cons rfl (fun K hK => ?_) (AllReadyIn.cons rfl (fun K hK => ?_) (fun _ hj => by cases hj)))
          · go_simp
            refine hK _ _ ?_
            clear hK K
            refine ready1 (i := 5) (by kernel_rfl) rfl (fun K hK => ?_)
            go_simp
            refine hK _ _ ?_
            clear hK K
            refine ready1 (i := 6) (by kernel_rfl) rfl (fun K hK => ?_)
            go_simp
            refine hK _ _ ?_
            clear hK K
            refine wpAnyIn_done (by kernel_rfl) ?_ _
            exact HE.out
          · go_simp
            refine hK _ _ ?_
            clear hK K
            refine ready1 (i := 3) (by kernel_rfl) rfl (fun K hK => ?_)
            go_simp
            refine hK _ _ ?_
            clear hK K
            refine ready1 (i := 6) (by kernel_rfl) rfl (fun K hK => ?_)
            go_simp
            refine hK _ _ ?_
            clear hK K
            refine wpAnyIn_done (by kernel_rfl) ?_ _
            exact HE.out
        · go_simp
          refine hK _ _ ?_
          clear hK K
          refine ready1 (i := 2) (by kernel_rfl) rfl (fun K hK => ?_)
          go_simp
          refine hK _ _ ?_
          clear hK K
          refine ready1 (i := 3) (by kernel_rfl) rfl (fun K hK => ?_)
          go_simp
          refine hK _ _ ?_
          clear hK K
          refine ready1 (i := 6) (by kernel_rfl) rfl (fun K hK => ?_)
          go_simp
          refine hK _ _ ?_
          clear hK K
          refine wpAnyIn_done (by kernel_rfl) ?_ _
          exact HE.out
  case done =>
    rintro D ys W hD rfl ⟨hb1, hT1, hB, hs4⟩ hK
    gi_wp2
    refine ⟨by simp, .inl ⟨_, _, rfl, run_takeDeferred hK, ?_⟩⟩
    refine ⟨_, results_none rfl _ _ _, ⟨_, rfl⟩, ?_, ?_⟩
    · exact hT1.of_block (World.putObj_heap_other (by omega))
    · exact grown_own (β := Unit) (Nat.le_refl _) () _ _ (some D) hB (grownBy_putObj' _ _ _) (fun r e => by cases e; exact ⟨by omega, _, hK, rfl⟩)
  case stop =>
    rintro D c pre W _ _ h _
    exact h.elim
end Go.Proofs.Ytmdghonefdmihad
namespace Go.Proofs.Ytmdghonefdmihad
open Go.RowKit

def boundsB (R C : Int) (n : Nat) : Bool := inB R 1 8 && (inB C 1 94 && decide (n ≤ 40))
def fitsB (R C : Int) (x : GC) : Bool := inB x.row 0 (R - 1) && (inB x.rows 1 (R - x.row) && (inB x.col 0 (C - 1) && (inB x.cols 1 (C - x.col) && inB x.ins 0 4)))
def meetsB (a b : GC) : Bool := decide (a.row < b.row + b.rows) && (decide (b.row < a.row + a.rows) && (decide (a.col < b.col + b.cols) && decide (b.col < a.col + a.cols)))
def freeG (xs : List GC) (x : GC) : Bool := xs.all fun a => !meetsB a x
def okTo (R C : Int) (gs : List GC) (k : Nat) : Bool := (List.range k).all fun i => fitsB R C (gs.getD i dG) && freeG (gs.take i) (gs.getD i dG)
def okB (g : G) : Bool := boundsB g.rows g.cols g.cells.length && okTo g.rows g.cols g.cells g.cells.length
theorem okTo_zero (R C : Int) (gs : List GC) : okTo R C gs 0 = true := rfl
theorem okTo_succ {R C : Int} {gs : List GC} {k : Nat} (h : okTo R C gs k = true) (h1 : fitsB R C (gs.getD k dG) = true) (h2 : freeG (gs.take k) (gs.getD k dG) = true) : okTo R C gs (k + 1) = true := by
  unfold okTo at h ⊢
  rw [List.range_succ, List.all_append, h]
  simp only [List.all_cons, h1, h2, List.all_nil, Bool.and_self]
theorem okTo_false {R C : Int} {gs : List GC} {k n : Nat} (hk : k < n) (h : (fitsB R C (gs.getD k dG) && freeG (gs.take k) (gs.getD k dG)) = false) : okTo R C gs n = false := by
  cases h2 : okTo R C gs n with
  | false => rfl
  | true => rw [List.all_eq_true.1 h2 k (List.mem_range.2 hk)] at h; cases h
theorem okB_false1 {g : G} (h : boundsB g.rows g.cols g.cells.length = false) : okB g = false := by simp only [okB, h, Bool.false_and]
theorem okB_false2 {g : G} (h : okTo g.rows g.cols g.cells g.cells.length = false) : okB g = false := by simp only [okB, h, Bool.and_false]
theorem bounds_of {R C : Int} {n : Nat} (h : boundsB R C n = true) : 1 ≤ R ∧ R ≤ 8 ∧ 1 ≤ C ∧ C ≤ 94 ∧ n ≤ 40 := by
  simp [boundsB, inB] at h
  omega
theorem bounds_intro {R C : Int} {n : Nat} (h1 : inB R 1 8 = true) (h2 : inB C 1 94 = true) (h3 : n ≤ 40) : boundsB R C n = true := by simp [boundsB, h1, h2, h3]
/-- a cell that fits, in plain numbers -/
def Fit5 (R C : Int) (x : GC) (r c rs cs : Nat) : Prop := x.row = r ∧ x.col = c ∧ x.rows = rs ∧ x.cols = cs ∧ 1 ≤ rs ∧ 1 ≤ cs ∧ ((r + rs : Nat) : Int) ≤ R ∧ ((c + cs : Nat) : Int) ≤ C
theorem fits_of {R C : Int} {x : GC} (h : fitsB R C x = true) : Fit5 R C x x.row.toNat x.col.toNat x.rows.toNat x.cols.toNat := by
  simp [fitsB, inB] at h
  unfold Fit5
  omega
def slotsG (x : GC) : List Sl := rowsSl x.row.toNat x.col.toNat x.cols.toNat x.rows.toNat
/-- the slots of cells -/
def takenBy (gs : List GC) : List (Nat × Nat) := (gs.flatMap slotsG).map (·.1)
theorem takenBy_nil : takenBy [] = [] := rfl
theorem takenBy_snoc (gs : List GC) (x : GC) : takenBy (gs ++ [x]) = takenBy gs ++ (slotsG x).map (·.1) := by simp [takenBy]
theorem mem_rowsSl {r c rs cs : Nat} (hr : r + rs ≤ 1000) (hc : c + cs ≤ 1000) (y : Nat × Nat) : y ∈ (rowsSl r c cs rs).map (·.1) ↔ (r ≤ y.1 ∧ y.1 < r + rs) ∧ c ≤ y.2 ∧ y.2 < c + cs := by
  simp only [rowsSl, rowSl, List.mem_map, List.mem_flatMap, List.mem_range]
  constructor
  · rintro ⟨z, ⟨i, hi, j, hj, rfl⟩, rfl⟩
    rw [toSl_val (by omega)]
    dsimp only
    omega
  · rintro ⟨⟨h1, h2⟩, h3, h4⟩
    refine ⟨toSl (r + (y.1 - r)) (c + (y.2 - c)), ⟨y.1 - r, by omega, y.2 - c, by omega, rfl⟩, ?_⟩
    rw [toSl_val (by omega)]
    exact Prod.ext (by dsimp only; omega) (by dsimp only; omega)
theorem mem_slotsG {R C : Int} {x : GC} (h : fitsB R C x = true) (hR : R ≤ 8) (hC : C ≤ 94) (y : Nat × Nat) : y ∈ (slotsG x).map (·.1) ↔ (x.row ≤ y.1 ∧ (y.1 : Int) < x.row + x.rows) ∧ x.col ≤ y.2 ∧ (y.2 : Int) < x.col + x.cols := by
  obtain ⟨e1, e2, e3, e4, h1, h2, h3, h4⟩ := fits_of h
  unfold slotsG
  rw [mem_rowsSl (by omega) (by omega)]
  omega
/-- cells meet just if they have a slot in common -/
theorem meets_iff {R C : Int} {a x : GC} (ha : fitsB R C a = true) (hx : fitsB R C x = true) (hR : R ≤ 8) (hC : C ≤ 94) : meetsB a x = true ↔ ∃ y, y ∈ (slotsG a).map (·.1) ∧ y ∈ (slotsG x).map (·.1) := by
  obtain ⟨a1, a2, a3, a4, a5, a6, a7, a8⟩ := fits_of ha
  obtain ⟨x1, x2, x3, x4, x5, x6, x7, x8⟩ := fits_of hx
  have e : meetsB a x = true ↔ a.row < x.row + x.rows ∧ x.row < a.row + a.rows ∧ a.col < x.col + x.cols ∧ x.col < a.col + a.cols := by simp [meetsB]
  rw [e]
  constructor
  · rintro ⟨h1, h2, h3, h4⟩
    refine ⟨(max a.row.toNat x.row.toNat, max a.col.toNat x.col.toNat), (mem_slotsG ha hR hC _).2 ?_, (mem_slotsG hx hR hC _).2 ?_⟩
    · dsimp only; omega
    · dsimp only; omega
  · rintro ⟨y, h1, h2⟩
    have k1 := (mem_slotsG ha hR hC _).1 h1
    have k2 := (mem_slotsG hx hR hC _).1 h2
    omega
theorem free_eq {R C : Int} {gs : List GC} {x : GC} (hg : ∀ a ∈ gs, fitsB R C a = true) (hx : fitsB R C x = true) (hR : R ≤ 8) (hC : C ≤ 94) : freeIn (takenBy gs) x.row.toNat x.col.toNat x.rows.toNat x.cols.toNat = freeG gs x := by
  rw [Bool.eq_iff_iff]
  unfold freeIn freeG
  rw [List.all_eq_true, List.all_eq_true]
  constructor
  · intro h a ha
    cases hm : meetsB a x with
    | false => rfl
    | true =>
      obtain ⟨y, h1, h2⟩ := (meets_iff (hg a ha) hx hR hC).1 hm
      obtain ⟨z, hz, rfl⟩ := List.mem_map.1 h2
      have := of_decide_eq_true (h z hz)
      refine absurd ?_ this
      obtain ⟨u, hu, e⟩ := List.mem_map.1 h1
      exact List.mem_map.2 ⟨u, List.mem_flatMap.2 ⟨a, ha, hu⟩, e⟩
  · intro h z hz
    refine decide_eq_true (fun hm => ?_)
    obtain ⟨u, hu, e⟩ := List.mem_map.1 hm
    obtain ⟨a, ha, hua⟩ := List.mem_flatMap.1 hu
    have := h a ha
    rw [(meets_iff (hg a ha) hx hR hC).2 ⟨z.1, List.mem_map.2 ⟨u, hua, e⟩, List.mem_map.2 ⟨z, hz, rfl⟩⟩] at this
    cases this
theorem okTo_fits {R C : Int} {gs : List GC} {k : Nat} (hk : k ≤ gs.length) (h : okTo R C gs k = true) : ∀ a ∈ gs.take k, fitsB R C a = true := by
  intro a ha
  obtain ⟨i, hi, rfl⟩ := List.mem_iff_getElem.1 ha
  rw [List.length_take] at hi
  have := List.all_eq_true.1 h i (List.mem_range.2 (by omega))
  rw [Bool.and_eq_true] at this
  have e : gs.getD i dG = (gs.take k)[i] := by simp [List.getD, show i < gs.length by omega]
  rw [← e]
  exact this.1
theorem rowSl_len (r c a : Nat) : (rowSl r c a).length = a := by simp [rowSl]
theorem rowsSl_len (r c cs d : Nat) : (rowsSl r c cs d).length = d * cs := by
  induction d with
  | zero => simp [rowsSl]
  | succ d ih => rw [rowsSl_succ, List.length_append, ih, rowSl_len, Nat.succ_mul]
theorem slotsG_len {R C : Int} {x : GC} (h : fitsB R C x = true) (hR : R ≤ 8) (hC : C ≤ 94) : (slotsG x).length ≤ 752 := by
  obtain ⟨e1, e2, e3, e4, h1, h2, h3, h4⟩ := fits_of h
  unfold slotsG
  rw [rowsSl_len]
  have a1 : x.rows.toNat ≤ 8 := by omega
  have a2 : x.cols.toNat ≤ 94 := by omega
  exact Nat.mul_le_mul a1 a2
theorem takenBy_len {R C : Int} (hR : R ≤ 8) (hC : C ≤ 94) : ∀ (gs : List GC), (∀ a ∈ gs, fitsB R C a = true) → (takenBy gs).length ≤ gs.length * 752
  | [], _ => by simp [takenBy]
  | a :: t, h => by
    have h1 := slotsG_len (h a (by simp)) hR hC
    have h2 := takenBy_len hR hC t (fun b hb => h b (by simp [hb]))
    simp only [takenBy, List.length_map, List.flatMap_cons, List.length_append, List.length_cons] at h2 ⊢
    omega
end Go.Proofs.Ytmdghonefdmihad
