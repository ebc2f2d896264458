/-
  PROVED HERE: a region that draws its order, whose operations but the last one only read (their callees turn nothing that was in memory), and whose last operation waits for all others, may be walked once, in its text's order; the last operation may turn memory. Also: the program's textOf is the text of a cell at its place in a drawn table; nothing that was in memory is turned. Also: small facts for the model's l3Of: what stays of a table and a grid of the call's own; what holds between two operations of its first statement.
-/
import Derived.Test.YtmdghonefdmihaeB28
import Derived.Deep.DeepCutAuto
import Derived.Deep.RegionWith
import Derived.Deep.QuietTactic
import Derived.BigQuiet
namespace Go.Proofs.Ytmdghonefdmihae
open Go.RowKit

section
variable {P : Program} {ops : Array Oper} {C : World → Prop}
/-- each operation ahead of z is waited for by a later one, up to z -/
def succB (ops : Array Oper) (z : Nat) : Bool := (List.range z).all fun i => (List.range (z + 1)).any fun j => decide (i < j) && edgeB ops j i
theorem all_ahead {z : Nat} {L : Nat → Bool} (hs : succB ops z = true) (hc : Closed ops L) {o : Oper} (ho : ops[z]? = some o) (ha : ∀ e ∈ o.after, Region.binds .any e = true → L e.on = true) : ∀ n i, z - i ≤ n → i < z → L i = true
  | 0, i, h, hi => by omega
  | n + 1, i, h, hi => by
    have h1 := List.all_eq_true.1 hs i (List.mem_range.2 hi)
    obtain ⟨j, hj, h2⟩ := List.any_eq_true.1 h1
    have hjz := List.mem_range.1 hj
    rw [Bool.and_eq_true] at h2
    obtain ⟨h3, h4⟩ := h2
    have h3 := of_decide_eq_true h3
    by_cases e : j = z
    · subst e
      unfold edgeB at h4
      rw [ho] at h4
      simp only [Option.map_some, Option.getD_some, List.any_eq_true, Bool.and_eq_true, beq_iff_eq] at h4
      obtain ⟨e, he1, he2, he3⟩ := h4
      have := ha e (by simpa using he1) he2
      rwa [he3] at this
    · have hLj := all_ahead hs hc ho ha n j (by omega) (by omega)
      cases hLi : L i with
      | true => rfl
      | false => rw [hc j i h4 hLi] at hLj; cases hLj
theorem closed_set {listed : Array Bool} {j : Nat} (h : Closed ops (fun k => listed.getD k false)) (hj : j ∈ Region.ready .any ops listed) : Closed ops (fun k => (listed.setIfInBounds j true).getD k false) := by
  obtain ⟨h0, o, ho, ha⟩ := mem_ready.1 hj
  have hlt : j < listed.size := by
    rcases Nat.lt_or_ge j listed.size with h' | h'
    · exact h'
    · rw [Array.getD_eq_getD_getElem?, Array.getElem?_eq_none h'] at h0
      cases h0
  rw [listed_set hlt]
  exact h.next ho ha
def wpAnyM (P : Program) (ops : Array Oper) (C : World → Prop) (z : Nat) (R : Act → Prop) : Nat → Array Bool → Act → Prop
  | 0, _, _ => False
  | fuel + 1, listed, a => Region.ready .any ops listed ≠ [] ∧ ∀ i ∈ Region.ready .any ops listed, if i = z then (fuel = 0 ∧ Region.ready .any ops (listed.setIfInBounds z true) = [] ∧ R a) else qOp P ops C i (wpAnyM P ops C z R fuel (listed.setIfInBounds i true)) a
theorem wpAny_of_M {Q : Exit → Act → World → Prop} {R : Act → Prop} {z : Nat} (hR : ∀ a w, C w → R a → wpOp P ops Q z (fun a' w' => Q .normal a' w') a w) : ∀ (fuel : Nat) (listed : Array Bool) (a : Act) (w : World), C w → wpAnyM P ops C z R fuel listed a → wpAny P .any ops Q fuel listed a w
  | 0, _, _, _, _, h => h.elim
  | fuel + 1, listed, a, w, hw, h => ⟨fun h0 => absurd h0 h.1, fun i hi => by
      have h2 := h.2 i hi
      by_cases hz : i = z
      · rw [if_pos hz] at h2
        obtain ⟨h3, hr, hRa⟩ := h2
        subst h3
        subst hz
        exact wpOp_mono (fun a' w' h' => ⟨hr, h'⟩) (hR a w hw hRa)
      · rw [if_neg hz] at h2
        exact wpOp_of_qOp hw (fun a' w' hw' => wpAny_of_M hR fuel _ a' w' hw') h2⟩
theorem wpAnyM_first {R : Act → Prop} {z i : Nat} {oi : Oper} {v : Value} (hs : succB ops z = true) (hi : ops[i]? = some oi) (hiz : i < z) (hsel : ∀ (j : Nat) (o : Oper) cs b, ops[j]? = some o → o.op ≠ .select cs b) :
    ∀ (fuel : Nat) (listed : Array Bool) (a : Act), Closed ops (fun k => listed.getD k false) →
      (∀ j oj, ops[j]? = some oj → j ≠ i → listed.getD j true = false → (∀ e ∈ oj.after, Region.binds .any e = true → e.on ≠ i) → oi.apart ops oj = true) →
      i ∈ Region.ready .any ops listed → YieldsIn P ops C oi v a →
      wpAnyM P ops C z R fuel (listed.setIfInBounds i true) (a.put oi.dst v) → wpAnyM P ops C z R (fuel + 1) listed a := by
  intro fuel
  induction fuel with
  | zero => intro listed a _ _ _ _ H; exact H.elim
  | succ fuel ih =>
    intro listed a hcl hfree hr hy H
    refine ⟨fun h => (by rw [h] at hr; cases hr), fun j hj => ?_⟩
    by_cases hji : j = i
    · rw [if_neg (by omega)]; subst hji; exact hy.qOp hi H
    · have hjz : j ≠ z := fun e => by
        subst e
        obtain ⟨_, o, ho, ha⟩ := mem_ready.1 hj
        have h1 := all_ahead hs hcl ho ha _ i (Nat.le_refl _) hiz
        have h0 := (mem_ready.1 hr).1
        rcases Nat.lt_or_ge i listed.size with h' | h'
        · simp [h'] at h0 h1; rw [h0] at h1; cases h1
        · simp [Array.getElem?_eq_none h'] at h1
      rw [if_neg hjz]
      have h1 := H.2 j (ready_mono hj hji)
      rw [if_neg hjz] at h1
      obtain ⟨hjun, oj, hoj, hall⟩ := mem_ready.1 hj
      have hnot : ∀ e ∈ oj.after, Region.binds .any e = true → e.on ≠ i := fun e he hb heq => by
        have h1 := hall e he hb
        have h0 := (mem_ready.1 hr).1
        rw [heq] at h1
        rcases Nat.lt_or_ge i listed.size with h' | h'
        · simp [h'] at h0 h1; rw [h0] at h1; cases h1
        · simp [Array.getElem?_eq_none h'] at h1
      have h2 := qOp_put hoj (hfree j oj hoj hji hjun hnot) (fun cs b => hsel i oi cs b hi) (fun cs b => hsel j oj cs b hoj) hy h1
      have hfree' : ∀ k ok, ops[k]? = some ok → k ≠ i → (listed.setIfInBounds j true).getD k true = false →
          (∀ e ∈ ok.after, Region.binds .any e = true → e.on ≠ i) → oi.apart ops ok = true := fun k ok hk hki hun hno => by
        refine hfree k ok hk hki ?_ hno
        by_cases hjk : j = k
        · subst hjk; exact hjun
        · rw [getD_set_ne true hjk] at hun; exact hun
      refine qOp_mono (fun a' h3 => ih (listed.setIfInBounds j true) a' (closed_set hcl hj) hfree' (ready_mono hr (Ne.symm hji)) h3.1 ?_) h2
      rw [Array.setIfInBounds_comm _ _ hji]
      exact h3.2
theorem wpAnyM_lex {R : Act → Prop} {z : Nat} (hns : Region.noSelect ops = true) (hs : succB ops z = true) : ∀ (l : List Oper) (k : Nat) (listed : Array Bool) (a : Act), k + l.length = z → (∀ j, j < l.length → l[j]? = ops[k + j]?) → Closed ops (fun k => listed.getD k false) →
    Region.lexFrom .any ops (l.length + 1) k listed = true → wpQuiet P ops C R l a → wpAnyM P ops C z R (l.length + 1) listed a
  | [], k, listed, a, hk, _, _, hB, h => by
    simp only [List.length_nil, Region.lexFrom, Bool.and_eq_true] at hB
    obtain ⟨⟨hr, _⟩, he⟩ := hB
    have hk' : k = z := by simpa using hk
    subst hk'
    have hr' : k ∈ Region.ready .any ops listed := by simpa using hr
    have he' : Region.ready .any ops (listed.setIfInBounds k true) = [] := by simpa using he
    refine ⟨fun h => (by rw [h] at hr'; cases hr'), fun i hi => ?_⟩
    by_cases hik : i = k
    · rw [if_pos hik]; exact ⟨rfl, he', h⟩
    · have := ready_mono hi hik
      rw [he'] at this
      cases this
  | o :: l, k, listed, a, hk, hl, hcl, hB, h => by
    have h0 : ops[k]? = some o := by simpa using (hl 0 (by simp)).symm
    simp only [List.length_cons] at hk hB ⊢
    rw [Region.lexFrom] at hB
    simp only [Bool.and_eq_true] at hB
    obtain ⟨⟨hr, hf⟩, hB'⟩ := hB
    have hr' : k ∈ Region.ready .any ops listed := by simpa using hr
    have hst : qOp P ops C k (wpQuiet P ops C R l) a := by unfold qOp; simp only [h0]; exact h
    obtain ⟨v, hy, hK⟩ := yieldsIn_of_qOp h0 hst
    exact wpAnyM_first hs h0 (by omega) (Region.noSelect_spec hns) (l.length + 1) listed a hcl (Region.free_spec h0 hf) hr' hy
      (wpAnyM_lex hns hs l (k + 1) _ _ (by omega) (fun j hj => by have := hl (j + 1) (by simpa using hj); simpa [Nat.add_assoc, Nat.add_comm 1 j] using this) (closed_set hcl hr') hB' hK)
end
/-- the walk: what only reads in the text's order, then the last operation -/
theorem wp_region_last {P : Program} {id : Nat} {Q : Exit → Act → World → Prop} {a : Act} {w : World} {l : List Oper} (n : Nat) {o : Oper} (hm : P.follows .mixedOrders = true) (hl : l.length = n + 1) (ho : l[n]? = some o) (hB : Region.lexB .any l.toArray = true) (hs : succB l.toArray n = true)
    (h : wpQuiet P l.toArray (fun w' => ∃ p : BW w, w' = p.u) (fun a' => ∀ w', (∃ p : BW w, w' = p.u) → if Region.wanted o (yielded l.toArray a'.tmps) = true then o.wp P a' w' (fun a w => Q .normal a w) Q else Q .normal (a'.put o.dst undef) w') (l.take n) a) : (Code.region id l.toArray true).wp P Q a w := by
  simp only [Region.lexB, Bool.and_eq_true] at hB
  have hlt : (l.take n).length = n := by rw [List.length_take]; omega
  refine wp_region_any hm (wpAny_of_M (C := fun w' => ∃ p : BW w, w' = p.u) (z := n) (R := fun a' => ∀ w', (∃ p : BW w, w' = p.u) → if Region.wanted o (yielded l.toArray a'.tmps) = true then o.wp P a' w' (fun a w => Q .normal a w) Q else Q .normal (a'.put o.dst undef) w') ?_ _ _ _ _ ⟨⟨_, k_drew (Below.refl _ _)⟩, rfl⟩ ?_)
  · intro a' w' hw' hR
    have h1 := hR w' hw'
    unfold wpOp
    rw [show l.toArray[n]? = some o by simpa using ho]
    dsimp only
    split
    · rename_i hw; rw [if_pos hw] at h1; exact .inl h1
    · rename_i hw; rw [if_neg hw] at h1; exact h1
  · have := wpAnyM_lex (P := P) (C := fun w' => ∃ p : BW w, w' = p.u) hB.1 hs (l.take n) 0 (Array.replicate l.toArray.size false) a (by omega) (fun j hj => by rw [hlt] at hj; simp [hj]) (fun j i _ _ => by
      show (Array.replicate l.toArray.size false).getD j false = false
      rw [Array.getD_eq_getD_getElem?, Array.getElem?_replicate]
      split <;> rfl) (by rw [hlt, ← hl]; simpa using hB.2) h
    rw [hlt, ← hl] at this
    simpa using this
end Go.Proofs.Ytmdghonefdmihae
namespace Go.Proofs.Ytmdghonefdmihae
open Go.RowKit

theorem text_size {t : T} {x : GC} {C : Nat} (hx : Cel t C x) {w : World} {z : Nat} {v : Value} (hr : RowsAt w z v t.rows) : (textOf t x).size ≤ maxLen := by
  obtain ⟨rn, jn, cn, mn, e1, e2, e3, e4, h1, h2, h3, h4, h5⟩ := hx.ex
  rw [textOf, e1, e2, Int.toNat_natCast, Int.toNat_natCast]
  obtain ⟨rb, roff, rcap, re, rc1, rc2, rbl, u, hu0, _, hu⟩ := At.get hr h1
  obtain ⟨qb, qoff, qcap, qe, qc1, qc2, qbl, hv, hsl⟩ := At.get hu h2
  exact hsl
set_option maxRecDepth 100000 in
set_option maxHeartbeats 2000000 in
theorem impltextOf (ac ar : Option Addr) (cc cr : Nat) (t : T) (x : GC) {C : Nat} (hx : Cel t C x) (w : World) {z : Nat} (hr : RowsAt w z (.slice ar t.rows.length cr) t.rows) :
    Calls Try.prog 45 #[.agg #[.slice ac t.cols.length cc, .int .i64 t.head, .int .i64 t.foot, .slice ar t.rows.length cr, .int .i64 t.gap], .agg #[.int .i64 x.row, .int .i64 x.col, .int .i64 x.rows, .int .i64 x.cols, .int .i64 x.ins]] w fun e w' => e = .returned (.string (textOf t x)) ∧ (textOf t x).size ≤ maxLen ∧ Below w.heap.size w w' := by
  obtain ⟨rn, jn, cn, mn, e1, e2, e3, e4, h1, h2, h3, h4, h5⟩ := hx.ex
  have HTx : Hid (textOf t x = ((t.rows.getD rn dR).cells.getD jn dC).s) := by rw [Hid, textOf, e1, e2, Int.toNat_natCast, Int.toNat_natCast]
  have K1 := k_alloc (Below.refl w.heap.size w) (.cells #[.slice ac t.cols.length cc, .int .i64 t.head, .int .i64 t.foot, .slice ar t.rows.length cr, .int .i64 t.gap] 26)
  have X1 := newestB w (.cells #[.slice ac t.cols.length cc, .int .i64 t.head, .int .i64 t.foot, .slice ar t.rows.length cr, .int .i64 t.gap] 26)
  have hs1 : (w.alloc (.cells #[.slice ac t.cols.length cc, .int .i64 t.head, .int .i64 t.foot, .slice ar t.rows.length cr, .int .i64 t.gap] 26)).heap.size = w.heap.size + 1 := by simp
  rw [e1, e2]
  clear e1 e2 e3 e4
  go_enter Try.func45, Try.ntmps45
  go_upto_region 1 with fail
  have K2 := k_alloc K1 (.cells #[.int .i64 (rn : Int), .int .i64 x.col, .int .i64 x.rows, .int .i64 x.cols, .int .i64 (jn : Int)] 39)
  have X2 := newestB (w.alloc (.cells #[.slice ac t.cols.length cc, .int .i64 t.head, .int .i64 t.foot, .slice ar t.rows.length cr, .int .i64 t.gap] 26)) (.cells #[.int .i64 (rn : Int), .int .i64 x.col, .int .i64 x.rows, .int .i64 x.cols, .int .i64 (jn : Int)] 39)
  have X1' := (Below.heap_alloc (w.alloc (.cells #[.slice ac t.cols.length cc, .int .i64 t.head, .int .i64 t.foot, .slice ar t.rows.length cr, .int .i64 t.gap] 26)) (.cells #[.int .i64 (rn : Int), .int .i64 x.col, .int .i64 x.rows, .int .i64 x.cols, .int .i64 (jn : Int)] 39) w.heap.size (by omega)).trans X1
  rw [hs1] at X2
  generalize (w.alloc (.cells #[.slice ac t.cols.length cc, .int .i64 t.head, .int .i64 t.foot, .slice ar t.rows.length cr, .int .i64 t.gap] 26)).alloc (.cells #[.int .i64 (rn : Int), .int .i64 x.col, .int .i64 x.rows, .int .i64 x.cols, .int .i64 (jn : Int)] 39) = W at K2 X2 X1' ⊢
  obtain ⟨rb, roff, rcap, re, rc1, rc2, rbl, u, hu0, _, hu⟩ := At.get (hr.kept K2) h1
  simp only [Value.slice.injEq, true_and] at re
  obtain ⟨rfl, rfl⟩ := re
  obtain ⟨qb, qoff, qcap, qe, qc1, qc2, qbl, hv, hsl⟩ := At.get hu h2
  subst qe
  have v0 := hv.1
  have q3 := cellB (p := 3) X1'
  have q0 := cellB (p := 0) X2
  have q4 := cellB (p := 4) X2
  have HSZ : Hid ((textOf t x).size ≤ maxLen) := by rw [Hid, HTx.out]; exact hsl
  have HK := Hid.intro K2
  unfold maxLen at rc2 qc2
  generalize (t.rows.getD rn dR).cells.getD jn dC = y at v0 hsl HTx
  generalize (t.rows.getD rn dR).cells.length = rl at hu0 h2 qc1
  clear hu hv hr h3 h4 h5 hx K1 X1 hs1 K2 X2 X1'
  go_quiet (fail)
  go_wp2
  go_ret
  exact ⟨by rw [HTx.out]; rfl, HSZ.out, k_drewN HK.out nq⟩
end Go.Proofs.Ytmdghonefdmihae
namespace Go.Proofs.Ytmdghonefdmihae
open Go.RowKit

structure OfJ (n0 : Nat) (W0 : World) (ac ar : Option Addr) (cc cr : Nat) (t : T) (L : Nat → Bool) (w : World) (v3 v8 v9 v10 v11 v12 v13 v14 v15 : Value) : Prop where
  f0 : L 0 = true → v8 = .pointer (some ⟨n0, 3, none⟩)
  f1 : L 1 = true → v9 = .slice ar t.rows.length cr
  f2 : L 2 = true → v10 = .int .i64 (t.rows.length : Int)
  f3 : L 3 = true → v11 = .pointer (some ⟨n0, 0, none⟩)
  f4 : L 4 = true → v12 = .slice ac t.cols.length cc
  f5 : L 5 = true → v13 = .int .i64 (t.cols.length : Int)
  f6 : L 6 = true → v14 = .int .i64 (max 1 (t.cols.length : Int))
  f7 : L 7 = true → v15 = .agg #[.int .i64 (t.rows.length : Int), .int .i64 (max 1 (t.cols.length : Int)), .slice none 0 0]
  f8 : L 8 = true → ∃ g, v3 = .pointer (some ⟨g, 0, none⟩) ∧ W0.heap.size ≤ g ∧ (L 9 = false → w.heap[g]? = some (.cells #[.int .i64 0, .int .i64 0, .slice none 0 0] 35))
  f9 : L 9 = true → ∃ g, v3 = .pointer (some ⟨g, 0, none⟩) ∧ W0.heap.size ≤ g ∧ w.heap[g]? = some (.cells #[.int .i64 (t.rows.length : Int), .int .i64 (max 1 (t.cols.length : Int)), .slice none 0 0] 35)
  o9 : L 9 = true → L 8 = true
  bk : Below W0.heap.size W0 w
def ofJ (n0 : Nat) (W0 : World) (ac ar : Option Addr) (cc cr : Nat) (t : T) (mk : Value → Value → Value → Value → Value → Value → Value → Value → Value → Act) (L : Nat → Bool) (a : Act) (w : World) : Prop := ∃ v3 v8 v9 v10 v11 v12 v13 v14 v15 : Value, a = mk v3 v8 v9 v10 v11 v12 v13 v14 v15 ∧ OfJ n0 W0 ac ar cc cr t L w v3 v8 v9 v10 v11 v12 v13 v14 v15
theorem threeZ {w : World} {g : Nat} {x0 x1 x2 : Value} {t : TypeId} (h : w.heap[g]? = some (.cells #[x0, x1, x2] t)) :
    (w.cell? ⟨g, 0, none⟩ = some x0 ∧ w.cell? ⟨g, 1, none⟩ = some x1 ∧ w.cell? ⟨g, 2, none⟩ = some x2) ∧ w.frozen? ⟨g, 0, none⟩ = false ∧ w.frozen? ⟨g, 1, none⟩ = false ∧ w.frozen? ⟨g, 2, none⟩ = false :=
  ⟨⟨cellB h, cellB h, cellB h⟩, freeB h, freeB h, freeB h⟩
/-- what stays all along: the table, the answer's block, the grid -/
structure SG (w : World) (gb : Nat) (ac ar : Option Addr) (cc cr : Nat) (t : T) (C : Int) (vg : Value) (gs : List GC) (W : World) : Prop where
  bel : Below w.heap.size w W
  tbl : W.heap[w.heap.size]? = some (.cells #[.slice ac t.cols.length cc, .int .i64 t.head, .int .i64 t.foot, .slice ar t.rows.length cr, .int .i64 t.gap] 26)
  res : W.heap[w.heap.size + 1]? = some (.cells #[.int .i64 0, .int .i64 0, .slice none 0 0] 35)
  grd : W.heap[gb]? = some (.cells #[.int .i64 (t.rows.length : Int), .int .i64 C, vg] 35)
  own : OwnG W (w.heap.size + 2) vg gs
theorem fiveT {w : World} {g : Nat} {x0 x1 x2 x3 x4 : Value} {t : TypeId} (h : w.heap[g]? = some (.cells #[x0, x1, x2, x3, x4] t)) :
    (w.cell? ⟨g, 0, none⟩ = some x0 ∧ w.cell? ⟨g, 1, none⟩ = some x1 ∧ w.cell? ⟨g, 2, none⟩ = some x2 ∧ w.cell? ⟨g, 3, none⟩ = some x3 ∧ w.cell? ⟨g, 4, none⟩ = some x4) ∧ w.frozen? ⟨g, 0, none⟩ = false ∧ w.frozen? ⟨g, 1, none⟩ = false ∧ w.frozen? ⟨g, 2, none⟩ = false ∧ w.frozen? ⟨g, 3, none⟩ = false ∧ w.frozen? ⟨g, 4, none⟩ = false :=
  ⟨⟨cellB h, cellB h, cellB h, cellB h, cellB h⟩, freeB h, freeB h, freeB h, freeB h, freeB h⟩
theorem blk_kept {w w' : World} {g : Nat} {o : Obj} (h : w.heap[g]? = some o) (hb : Below w.heap.size w w') : w'.heap[g]? = some o := (hb.block g (Array.getElem?_eq_some_iff.1 h).1).trans h
theorem row_kept {w w' : World} {base : Nat} {e : TypeId} {sz : Nat} {v : Value} {m : Nat} {xs : List Value} (h : w.ownsRow base e sz v m xs) (k : Below w.heap.size w w') : w'.ownsRow base e sz v m xs :=
  ⟨h.1, h.2.elim Or.inl (fun ⟨g, cap, cur, hv, hg, hc, q⟩ => Or.inr ⟨g, cap, cur, hv, hg, blk_kept hc k, q⟩)⟩
theorem SG.kept {w W W' : World} {gb : Nat} {ac ar : Option Addr} {cc cr : Nat} {t : T} {C : Int} {vg : Value} {gs : List GC} (h : SG w gb ac ar cc cr t C vg gs W) (k : Below W.heap.size W W') : SG w gb ac ar cc cr t C vg gs W' :=
  ⟨h.bel.trans (k.mono h.bel.size), blk_kept h.tbl k, blk_kept h.res k, blk_kept h.grd k, row_kept h.own k⟩
theorem own_ne' {v : Value} {g : Nat} (h : ∀ b, v.ownBlock = some b → b ≠ g) : some g ≠ v.ownBlock := fun e => h g e.symm rfl
/-- one block, of the call's own, may be turned -/
theorem SG.bkc {w W W' : World} {gb cb : Nat} {ac ar : Option Addr} {cc cr : Nat} {t : T} {C : Int} {vg : Value} {gs : List GC} (h : SG w gb ac ar cc cr t C vg gs W) (k : Bk cb W W') (hcb : w.heap.size + 2 ≤ cb) (hne : gb ≠ cb) (hv : ∀ b, vg.ownBlock = some b → b ≠ cb) : SG w gb ac ar cc cr t C vg gs W' :=
  ⟨h.bel.trans (k.below h.bel.size (by omega)), (k.block _ (Array.getElem?_eq_some_iff.1 h.tbl).1 (by omega)).trans h.tbl, (k.block _ (Array.getElem?_eq_some_iff.1 h.res).1 (by omega)).trans h.res, (k.block _ (Array.getElem?_eq_some_iff.1 h.grd).1 hne).trans h.grd,
    row_off (n := w.heap.size + 2) (b1 := some cb) (b2 := none) h.own ⟨k.size, fun j _ hj h1 _ => k.block j hj (fun e => h1 (by rw [e]))⟩ (Nat.le_refl _) (by
      cases hb : vg.ownBlock with
      | none => exact .inl rfl
      | some b => exact .inr (fun e => by injection e with e; exact hv b hb e)) (by cases vg.ownBlock <;> simp)⟩
end Go.Proofs.Ytmdghonefdmihae
