/-
  PROVED HERE: what the program's allFree answers: whether none of a cell's slots is in the map; nothing that was in memory is turned. Also: an operation that is no defer statement is carried out in a round of a loop as outside of one; so a region of such that only reads may be walked once, in its text's order, in a round too; the three ways to take up the operations of a region that draws its order.
-/
import Derived.Test.YtggmjiddadjilalB1
import Derived.OwnWalkIn
import Derived.OrdersIn
import Derived.Sort.QuietIn
namespace Go.Proofs.Ytggmjiddadjilal
open Go.RowKit Go.Shelf
attribute [local go_sem] Oper.semAt_some

/-- a block of cells abides what turns blocks that are none -/
theorem obj_own {β : Type} (B : Nat) (f : β → Obj) (hf : ∀ s, (f s).isCells = true) : Own (fun s W => W.heap[B]? = some (f s)) := fun s X Y row hs hg hrow =>
  (hg.block B (Array.getElem?_eq_some_iff.1 hs).1 (fun e' => by obtain ⟨o, ho, hc⟩ := hrow B e'.symm; rw [hs] at ho; cases ho; rw [hf] at hc; cases hc)).trans hs
theorem size_own {β : Type} (B n : Nat) : OwnFrom B (fun (_ : β) W => n ≤ W.heap.size) := fun _ _ _ _ hs hg _ => Nat.le_trans hs hg.size
theorem boxC_own {β : Type} (B : Nat) (t : TypeId) (v : Value) : Own (fun (_ : β) W => Boxed W B t v) := boxed_own B t (fun _ => v)
/-- whether none of a cell's slots is taken -/
def freeIn (L : List (Nat × Nat)) (r c rs cs : Nat) : Bool := (rowsSl r c cs rs).all fun x => decide (x.1 ∉ L)

set_option maxRecDepth 100000 in
set_option maxHeartbeats 2000000 in
theorem allFree_any (r c rs cs : Nat) (i : Int) (hr : r + rs ≤ 1000) (hc : c + cs ≤ 1000) (w : World) (B : Nat) (L : List (Nat × Nat)) (hT : TakAt w B L) :
    Calls Try.prog 40 #[.map (some B), gcV r c rs cs i] w fun e w' => e = .returned (.bool (freeIn L r c rs cs)) ∧ Below w.heap.size w w' := by
  have hlt := hT.lt
  refine (callsIn_wide (n := 4)).1 ?_
  unfold gcV
  refine callsIn_of_wp_marks Try.func40 rfl trivial ?_ rfl
  simp only [Try.ntmps40, List.size_toArray, List.length_cons, List.length_nil, Nat.reduceAdd, Nat.reduceSub, Array.replicate_succ, Array.replicate_zero, List.push_toArray, List.append_toArray, List.nil_append, List.cons_append]
  gi_wp2_with (refine ⟨trivial, ?_⟩; gi_at_call 58; refine (callsIn_wide.2 (slotsOf_any r c rs cs i _)).mono ?_; rintro e w' ⟨rfl, rfl⟩)
  obtain ⟨W0, hW0⟩ : ∃ W0, ((((w.alloc (.cells #[.map (some B)] 70)).alloc (.cells #[.int .i64 r, .int .i64 c, .int .i64 rs, .int .i64 cs, .int .i64 i] 54)).alloc (.cells #[.bool false] 4)).alloc (gcObj r c rs cs i)) = W0 := ⟨_, rfl⟩
  have hsz : W0.heap.size = w.heap.size + 4 := by rw [← hW0]; simp
  have hB0 : Below w.heap.size w W0 := by rw [← hW0]; exact k_alloc (k_alloc (k_alloc (k_alloc (Below.refl _ _) _) _) _) _
  have hx0 : Boxed W0 w.heap.size 70 (.map (some B)) := by
    rw [← hW0]; exact (((Boxed.new w _ _).alloc _).alloc _).alloc _
  have hx2 : Boxed W0 (w.heap.size + 2) 4 (.bool false) := by
    have := (Boxed.new ((w.alloc (.cells #[.map (some B)] 70)).alloc (.cells #[.int .i64 r, .int .i64 c, .int .i64 rs, .int .i64 cs, .int .i64 i] 54)) 4 (.bool false)).alloc (gcObj r c rs cs i)
    rw [hW0] at this
    simpa using this
  have hx3 : W0.heap[w.heap.size + 3]? = some (gcObj r c rs cs i) := by
    have := World.alloc_heap_new (((w.alloc (.cells #[.map (some B)] 70)).alloc (.cells #[.int .i64 r, .int .i64 c, .int .i64 rs, .int .i64 cs, .int .i64 i] 54)).alloc (.cells #[.bool false] 4)) (gcObj r c rs cs i)
    rw [hW0] at this
    simpa using this
  rw [hW0]
  clear hW0
  refine wpIn_rangeFunc_ownH rfl (by omega) (gf := 72) (lb := #[.pointer (some ⟨w.heap.size + 3, 0, none⟩)]) rfl trivial (enters_of Try.func72 (by kernel_rfl) rfl)
    (slots_stops (w.heap.size + 3) r c rs cs i hr hc W0 (by omega) hx3) (fun h k => BoxK.trans h k) (BoxK_b (by omega)) (Below.refl _ _) (fun _ => rfl)
    (fun pre W => (Boxed W w.heap.size 70 (.map (some B)) ∧ Boxed W (w.heap.size + 2) 4 (.bool false)) ∧ Below w.heap.size w W ∧ w.heap.size + 4 ≤ W.heap.size ∧ ∀ x ∈ pre, x.1 ∉ L)
    (fun c pre W => c = .ret ∧ Boxed W (w.heap.size + 2) 4 (.bool false) ∧ Below w.heap.size w W ∧ ∃ x ∈ pre, x.1 ∈ L)
    (OwnFrom.and (OwnFrom.and (Own.from (boxC_own _ _ _) _) (Own.from (boxC_own _ _ _) _)) (OwnFrom.and (ownFrom_below (Nat.le_refl _) (by omega)) (OwnFrom.and (size_own _ _) (ownFrom_pure _ _))))
    (fun c => OwnFrom.and (ownFrom_pure _ _) (OwnFrom.and (Own.from (boxC_own _ _ _) _) (OwnFrom.and (ownFrom_below (Nat.le_refl _) (by omega)) (ownFrom_pure _ _))))
    ⟨⟨hx0, hx2⟩, hB0, by omega, by simp⟩
    (fun x a' W => ∃ Bx, w.heap.size + 4 ≤ Bx ∧ W.heap[Bx]? = some (.cells #[.int .i64 x.1.1, .int .i64 x.1.2] 95) ∧
      a' = { tmps := #[.map (some B), gcV r c rs cs i, .pointer (some ⟨w.heap.size, 0, none⟩), .pointer (some ⟨w.heap.size + 1, 0, none⟩), .pointer (some ⟨w.heap.size + 1 + 1, 0, none⟩), .pointer (some ⟨Bx, 0, none⟩), gcV r c rs cs i, .func (.func 72) #[] #[.pointer (some ⟨w.heap.size + 1 + 1 + 1, 0, none⟩)], slV x.1, undef, undef, undef, undef], defers := [] })
    (fun x a' _ A B row hs hg hr => by
      obtain ⟨Bx, h1, h2, h3⟩ := hs
      exact ⟨Bx, h1, obj_own Bx (fun _ : Unit => .cells #[.int .i64 x.1.1, .int .i64 x.1.2] 95) (fun _ => rfl) () A B row h2 hg (fun r e => (hr r e).2), h3⟩)
    ?assign ?body ?done ?stop
  case assign =>
    rintro l pre x W K ⟨⟨hb1, hb2⟩, hB, hs4, hp⟩ hK
    dsimp only [slV]
    gi_wp2
    refine hK _ _ ((KeepsOthers.alloc _ _).from _) ?_ ⟨⟨hb1.alloc _, hb2.alloc _⟩, k_alloc hB _, by simp; omega, hp⟩ ⟨W.heap.size, hs4, World.alloc_heap_new _ _, rfl⟩
    show (W.alloc _).heap[w.heap.size + 3]? = _
    exact Below.heap_alloc _ _ _ (by omega)
  case body =>
    rintro l pre x a' W hl ⟨r, hr⟩ ⟨⟨hb1, hb2⟩, hB, hs4, hp⟩ ⟨Bx, h1, h2, rfl⟩ _
    have c1 := hb1.cell
    have c2 := hb2.cell
    have f2 := hb2.frozen
    have d0 : W.cell? ⟨Bx, 0, none⟩ = some (.int .i64 x.1.1) := by simp [World.cell?, h2]
    have d1 : W.cell? ⟨Bx, 1, none⟩ = some (.int .i64 x.1.2) := by simp [World.cell?, h2]
    have hlook := (hT.of_block (hB.block B hlt)).look x
    unfold slV at hlook
    by_cases hx : x.1 ∈ L
    · obtain ⟨m, hm⟩ : ∃ m, L.count x.1 = m + 1 := ⟨L.count x.1 - 1, by have := List.count_pos_iff.2 hx; omega⟩
      rw [hm] at hlook
      clear hm
      gi_wp2
      exact ⟨(KeepsOthers.setCell _ _ _).from _, rfl, hb2.set _, hB.setCell (p := ⟨w.heap.size + 1 + 1, 0, none⟩) (by simp; omega) _, x, by simp, hx⟩
    · rw [List.count_eq_zero.2 hx] at hlook
      gi_wp2
      exact ⟨(KeepsOthers.refl _).from _, rfl, ⟨hb1, hb2⟩, hB, hs4, fun y hy => by
        rcases List.mem_append.1 hy with h | h
        · exact hp y h
        · cases List.mem_singleton.1 h; exact hx⟩
  case done =>
    rintro D ys W hD rfl ⟨⟨hb1, hb2⟩, hB, hs4, hp⟩ hK
    have c2 := hb2.cell
    have f2 := hb2.frozen
    gi_wp2
    have hk2 := (KeepsOthers.setCell W ⟨w.heap.size + 1 + 1, 0, none⟩ (.bool true)).same D _ hK rfl
    refine ⟨by simp, .inl ⟨_, _, rfl, run_takeDeferred hk2, ?_⟩⟩
    have hc5 := cell_kept (hb2.set (.bool true)).cell (grownBy_putObj' _ D (.deferred none)) (fun r e => by cases e; exact ⟨_, hk2, rfl⟩)
    have hfr : freeIn L r c rs cs = true := List.all_eq_true.2 (fun x hx => decide_eq_true (hp x hx))
    refine ⟨.bool true, ?_, by rw [hfr], (hB.setCell (p := ⟨w.heap.size + 1 + 1, 0, none⟩) (by simp; omega) _).trans (belowK_b (w := w) (Nat.le_refl _) _ D _ _ (by omega) hk2 rfl rfl)⟩
    simp [results, Try.f40, go_sem, hc5]
  case stop =>
    rintro D c pre W hD hpre ⟨rfl, hb2, hB, x, hx, hxL⟩ hK
    have c2 := hb2.cell
    gi_wp2
    refine ⟨by simp, .inl ⟨_, _, rfl, run_takeDeferred hK, ?_⟩⟩
    have hc5 := cell_kept hb2.cell (grownBy_putObj' _ D (.deferred none)) (fun r e => by cases e; exact ⟨_, hK, rfl⟩)
    have hfr : freeIn L r c rs cs = false := by
      cases hf : freeIn L r c rs cs with
      | false => rfl
      | true => exact absurd hxL (of_decide_eq_true (List.all_eq_true.1 hf x (hpre.subset hx)))
    refine ⟨.bool false, ?_, by rw [hfr], hB.trans (belowK_b (w := w) (Nat.le_refl _) W D _ _ (by omega) hK rfl rfl)⟩
    simp [results, Try.f40, go_sem, hc5]
end Go.Proofs.Ytggmjiddadjilal
namespace Go.Proofs.Ytggmjiddadjilal
open Go.RowKit

theorem opIn_round {n l : Nat} {P : Program} {o : Oper} {a : Act} {w : World} {K : Act → World → Prop} {Q : Exit → Act → World → Prop} (hd : ∀ c, o.op ≠ .defer c) (h : o.wpIn Fence.wide n P a w K Q) : o.wpIn (Fence.wide.inRound l) n P a w K Q := by
  unfold Oper.wpIn at *
  refine ⟨h.1, ?_⟩
  have h2 := h.2
  rw [Oper.semAt_plain _ _ _ hd] at h2 ⊢
  generalize (execOp a.eval o).run P w = r at h2 ⊢
  exact h2
/-- whether no operation is a defer statement -/
def noDefer (ops : List Oper) : Bool := ops.all (fun o => match o.op with | .defer _ => false | _ => true)
theorem noDefer_get {ops : List Oper} (h : noDefer ops = true) {i : Nat} {o : Oper} (ho : ops.toArray[i]? = some o) : ∀ c, o.op ≠ .defer c := by
  intro c hc
  have hm : o ∈ ops := by
    rw [List.getElem?_toArray] at ho
    exact List.mem_of_getElem? ho
  have := List.all_eq_true.1 h o hm
  rw [hc] at this
  cases this
theorem anyIn_round {n l : Nat} {P : Program} {md : Region.Mode} {ops : List Oper} {Q : Exit → Act → World → Prop} (hd : noDefer ops = true) : ∀ (fuel : Nat) (listed : Array Bool) (a : Act) (w : World),
    wpAnyIn Fence.wide n P md ops.toArray Q fuel listed a w → wpAnyIn (Fence.wide.inRound l) n P md ops.toArray Q fuel listed a w
  | 0, _, _, _, h => h
  | fuel + 1, _, _, _, h => ⟨h.1, fun i hi => by
      have h2 := h.2 i hi
      unfold wpOpIn at h2 ⊢
      cases ho : ops.toArray[i]? with
      | none => rw [ho] at h2; exact anyIn_round hd fuel _ _ _ h2
      | some o =>
        rw [ho] at h2
        dsimp only at h2 ⊢
        split
        · rename_i hw
          rw [if_pos hw] at h2
          exact opIn_round (noDefer_get hd ho) (Oper.wpIn_mono (fun a w hh => anyIn_round hd fuel _ a w hh) h2)
        · rename_i hw
          rw [if_neg hw] at h2
          exact ⟨h2.1, anyIn_round hd fuel _ _ _ h2.2⟩⟩
/-- a region that only reads, in a round -/
theorem quietRound {n l id : Nat} {P : Program} {Q : Exit → Act → World → Prop} {a : Act} {w : World} {ops : List Oper} (hd : noDefer ops = true) (hm : P.follows .mixedOrders = true) (hB : Region.lexB .any ops.toArray = true)
    (h : wpQuietIn Fence.wide n P ops.toArray (fun w' => ∃ n, w' = w.drewN n) (fun a' => ∀ w', (∃ n, w' = w.drewN n) → Q .normal a' w') ops a) : (Code.region id ops.toArray true).wpIn (Fence.wide.inRound l) n P Q a w := by
  have hB' := hB
  simp only [Region.lexB, Bool.and_eq_true] at hB'
  refine wpIn_region_any hm (anyIn_round hd _ _ _ _ (wpAnyIn_of_quiet (Q := fun a' => ∀ w', (∃ n, w' = w.drewN n) → Q .normal a' w') (C := fun w' => ∃ n, w' = w.drewN n) rfl (fun _ w' hw' h => h w' hw') _ _ _ _ ⟨1, rfl⟩ ?_))
  have := wpAnyQIn_lex (F := Fence.wide) (n := n) (C := fun w' => ∃ n, w' = w.drewN n) (md := .any) hB'.1 ops 0 (Array.replicate ops.toArray.size false) a (by simp) (by simpa using hB'.2) h
  simpa using this
/-- an operation of a region that may come up alone -/
theorem ready1 {F : Fence} {n : Nat} {P : Program} {md : Region.Mode} {ops : Array Oper} {Q : Exit → Act → World → Prop} {fuel : Nat} {listed : Array Bool} {a : Act} {w : World} {i : Nat} {o : Oper} (hr : Region.ready md ops listed = [i]) (ho : ops[i]? = some o)
    (h : ∀ K' : Act → World → Prop, (∀ a w, wpAnyIn F n P md ops Q fuel (listed.setIfInBounds i true) a w → K' a w) → if Region.wanted o (yielded ops a.tmps) = true then Oper.wpIn F n P o a w K' Q else (∀ f, o.about P w a.eval = some f → F.fn f) ∧ K' (a.put o.dst undef) w) :
    wpAnyIn F n P md ops Q (fuel + 1) listed a w := wpAnyIn_ready hr (by simp) (AllReadyIn.cons ho h (fun _ hj => by cases hj))
theorem ready2 {F : Fence} {n : Nat} {P : Program} {md : Region.Mode} {ops : Array Oper} {Q : Exit → Act → World → Prop} {fuel : Nat} {listed : Array Bool} {a : Act} {w : World} {i j : Nat} {o o' : Oper} (hr : Region.ready md ops listed = [i, j]) (ho : ops[i]? = some o) (ho' : ops[j]? = some o')
    (h : ∀ K' : Act → World → Prop, (∀ a w, wpAnyIn F n P md ops Q fuel (listed.setIfInBounds i true) a w → K' a w) → if Region.wanted o (yielded ops a.tmps) = true then Oper.wpIn F n P o a w K' Q else (∀ f, o.about P w a.eval = some f → F.fn f) ∧ K' (a.put o.dst undef) w)
    (h' : ∀ K' : Act → World → Prop, (∀ a w, wpAnyIn F n P md ops Q fuel (listed.setIfInBounds j true) a w → K' a w) → if Region.wanted o' (yielded ops a.tmps) = true then Oper.wpIn F n P o' a w K' Q else (∀ f, o'.about P w a.eval = some f → F.fn f) ∧ K' (a.put o'.dst undef) w) :
    wpAnyIn F n P md ops Q (fuel + 1) listed a w := wpAnyIn_ready hr (by simp) (AllReadyIn.cons ho h (AllReadyIn.cons ho' h' (fun _ hj => by cases hj)))
/-- an append in a region that draws its order -/
theorem ready_append {F : Fence} {n : Nat} {P : Program} {md : Region.Mode} {ops : Array Oper} {Q : Exit → Act → World → Prop} {fuel : Nat} {listed : Array Bool} {a : Act} {w : World} {j : Nat} {o : Oper} (hr : Region.ready md ops listed = [j]) (ho : ops[j]? = some o) (hg : o.guard = none)
    (s x : Operand) (t : TypeId) (hop : o.op = Op.call { callee := Callee.builtin Builtin.append, args := #[s, x], argTypes := #[t, t] })
    (base : Nat) (e : TypeId) (i : TypeInfo) (z : Value) (size bytes : Nat) (h1 : P.underlying t = some (.slice e)) (h2 : P.info? e = some i) (h3 : i.zero = some z) (h4 : i.size = size) (h5 : i.bytes = bytes) (h6 : z.cells.size = size) (h7 : 0 < size)
    (v : Value) (k : Nat) (xs : List Value) (hs : a.eval s = v) (hown : w.ownsRow base e size v k xs) (ad : Addr) (m c : Nat) (news : List Value) (hx : a.eval x = .slice (some ad) m c) (hn : news.length = m * size)
    (hc : ∀ j u, news[j]? = some u → w.cell? (ad.add j) = some u) (h1c : ∀ u ∈ news, u.oneCell' = true) (b1 : k + m ≤ maxLen) (b2 : (k + m) * bytes ≤ 140737488355328) (b3 : base ≤ w.heap.size)
    (hK : ∀ v' w', w'.ownsRow base e size v' (k + m) (xs ++ news) → w.grownBy w' v.ownBlock → wpAnyIn F n P md ops Q fuel (listed.setIfInBounds j true) (a.put o.dst v') w') :
    wpAnyIn F n P md ops Q (fuel + 1) listed a w := by
  refine ready1 hr ho (fun K hK' => ?_)
  obtain ⟨v', w', hrun, r1, r2, _⟩ := run_append_own (P := P) w base t o.type e i z size bytes h1 h2 h3 h4 h5 h6 h7 v k xs hown ad m c news hn hc h1c b1 b2 b3
  rw [if_pos (by simp [Region.wanted, hg])]
  unfold Oper.wpIn
  refine ⟨?_, ?_⟩
  · simp [Oper.about, hop, resolve, Target.leads, Sem.run_pure]
  · rw [Oper.semAt_plain F _ _ (by rw [hop]; intro c hc'; cases hc')]
    simp [execOp, hop, resolve, invoke, builtin, hs, hx, hrun, Result.andThen]
    exact hK' _ _ (hK v' w' r1 r2)
end Go.Proofs.Ytggmjiddadjilal
