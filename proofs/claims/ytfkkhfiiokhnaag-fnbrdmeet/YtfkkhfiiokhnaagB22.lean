/-
  PROVED HERE: which of two borders beats the other one, as a Bool; it is an order. Also: the best of borders, as a list's; borders, each with its cell, in memory. Also: how many cells rows have together. Also: a region that draws its order, whose operations but the last one only read (their callees turn nothing that was in memory), and whose last operation waits for all others, may be walked once, in its text's order; the last operation may turn memory. Also: small facts on places of a grid, for the other texts of this claim. Also: what the program's reaches answers at every argument; nothing in memory is turned. Also: what the program's GrdAt answers at a grid that lies in memory: the first cell that has a slot; nothing that was in memory is turned. Also: what the program's method beats and its BrdBeats answer at any two borders.
-/
import Derived.Test.YtfkkhfiiokhnaagB4
import Derived.Test.YtfkkhfiiokhnaagB5
import Derived.Test.YtfkkhfiiokhnaagB12
import Derived.Test.YtfkkhfiiokhnaagB1
import Derived.WalkLawsBesides
import Derived.WalkSpells
namespace Go.Proofs.Ytfkkhfiiokhnaag
open Go.RowKit

/-- whether a border (its style, its width) beats another one -/
def beatsB (a b c d : Int) : Bool := if a = 4 ∨ c = 4 then decide (a = 4 ∧ c ≠ 4) else if b ≠ d then decide (d < b) else decide (c < a)
theorem beats_hid1 {c : Int} (b d : Int) (hc : c ≠ 4) : beatsB 4 b c d = true := by simp [beatsB, hc]
theorem beats_hid2 {a : Int} (b d : Int) : beatsB a b 4 d = false := by simp [beatsB]
theorem beats_wide {a b c d : Int} (ha : a ≠ 4) (hc : c ≠ 4) (h : b ≠ d) : beatsB a b c d = decide (d < b) := by simp [beatsB, ha, hc, h]
theorem beats_style {a b c : Int} (ha : a ≠ 4) (hc : c ≠ 4) : beatsB a b c b = decide (c < a) := by simp [beatsB, ha, hc]
theorem beats_iff (a b c d : Int) : beatsB a b c d = true ↔ c ≠ 4 ∧ (a = 4 ∨ d < b ∨ (b = d ∧ c < a)) := by
  unfold beatsB
  by_cases ha : a = 4
  · by_cases hc : c = 4 <;> simp [ha, hc]
  · by_cases hc : c = 4
    · simp [ha, hc]
    · by_cases h : b = d
      · simp [ha, hc, h]
      · simp [ha, hc, h]
theorem beats_self (a b : Int) : beatsB a b a b = false := by
  rw [Bool.eq_false_iff]; intro h; rw [beats_iff] at h; omega
theorem beats_not (a b c d : Int) (h : beatsB a b c d = true) : beatsB c d a b = false := by
  rw [Bool.eq_false_iff]; intro k; rw [beats_iff] at h k; omega
theorem beats_trans {a b c d e f : Int} (h : beatsB a b c d = true) (k : beatsB c d e f = true) : beatsB a b e f = true := by
  rw [beats_iff] at h k ⊢; omega
/-- what does not beat goes on so -/
theorem beats_neg {a b c d e f : Int} (h : beatsB a b c d = false) (k : beatsB c d e f = false) : beatsB a b e f = false := by
  rw [Bool.eq_false_iff] at h k ⊢
  intro hh
  rw [ne_eq, beats_iff] at h k
  rw [beats_iff] at hh
  omega
end Go.Proofs.Ytfkkhfiiokhnaag
namespace Go.Proofs.Ytfkkhfiiokhnaag
open Go.RowKit

/-- a border and from which cell it comes: style, width, cell -/
structure Fr where
  s : Int
  w : Int
  c : Int
def dF : Fr := ⟨0, 0, -1⟩
def btF (a b : Fr) : Bool := beatsB a.s a.w b.s b.w
/-- the best of the first k -/
def bestTo (l : List Fr) : Nat → Fr
  | 0 => dF
  | k + 1 => if k = 0 then l.getD 0 dF else if btF (l.getD k dF) (bestTo l k) = true then l.getD k dF else bestTo l k
def bestF (l : List Fr) : Fr := bestTo l l.length
theorem bestTo_yes {l : List Fr} {k : Nat} (h : btF (l.getD (k + 1) dF) (bestTo l (k + 1)) = true) : bestTo l (k + 2) = l.getD (k + 1) dF := by rw [bestTo, if_neg (by omega), if_pos h]
theorem bestTo_no {l : List Fr} {k : Nat} (h : btF (l.getD (k + 1) dF) (bestTo l (k + 1)) = false) : bestTo l (k + 2) = bestTo l (k + 1) := by rw [bestTo, if_neg (by omega), if_neg (by rw [h]; simp)]
/-- borders in memory -/
def FrsAt (w : World) (z : Nat) (v : Value) (l : List Fr) : Prop := At w z v l.length 3 (fun i b o => w.cell? ⟨b, o, none⟩ = some (.int .i64 (l.getD i dF).s) ∧ w.cell? ⟨b, o + 1, none⟩ = some (.int .i64 (l.getD i dF).w) ∧ w.cell? ⟨b, o + 2, none⟩ = some (.int .i64 (l.getD i dF).c))
theorem FrsAt.kept {w w' : World} {z : Nat} {v : Value} {l : List Fr} (h : FrsAt w z v l) (k : Below w.heap.size w w') : FrsAt w' z v l :=
  At.mono h k.size (Nat.le_refl _) (fun _ b _ _ hb _ he => ⟨(k.cell (p := ⟨b, _, none⟩) hb).trans he.1, (k.cell (p := ⟨b, _, none⟩) hb).trans he.2.1, (k.cell (p := ⟨b, _, none⟩) hb).trans he.2.2⟩)
theorem FrsAt.base {w : World} {z z' : Nat} {v : Value} {l : List Fr} (h : FrsAt w z v l) (hz : z' ≤ z) : FrsAt w z' v l := At.mono h (Nat.le_refl _) hz (fun _ _ _ _ _ _ he => he)
/-- three cells of a block, and none is frozen -/
theorem cells3 {w : World} {g : Nat} {x0 x1 x2 : Value} {t : TypeId} (h : w.heap[g]? = some (.cells #[x0, x1, x2] t)) :
    (w.cell? ⟨g, 0, none⟩ = some x0 ∧ w.cell? ⟨g, 1, none⟩ = some x1 ∧ w.cell? ⟨g, 2, none⟩ = some x2) ∧ w.frozen? ⟨g, 0, none⟩ = false ∧ w.frozen? ⟨g, 1, none⟩ = false ∧ w.frozen? ⟨g, 2, none⟩ = false :=
  ⟨⟨cellB h, cellB h, cellB h⟩, freeB h, freeB h, freeB h⟩
/-- three stores into a block -/
def st3 (w : World) (g : Nat) (y0 y1 y2 : Value) : World := ((w.setCell ⟨g, 0, none⟩ y0).setCell ⟨g, 1, none⟩ y1).setCell ⟨g, 2, none⟩ y2
theorem st3_bk (w : World) (g : Nat) (y0 y1 y2 : Value) : Bk g w (st3 w g y0 y1 y2) := (Bk.set (Bk.set (Bk.set (Bk.refl g w) (p := ⟨g, 0, none⟩) (.inl rfl) y0) (p := ⟨g, 1, none⟩) (.inl rfl) y1) (p := ⟨g, 2, none⟩) (.inl rfl) y2)
theorem st3_is {w : World} {g : Nat} {x0 x1 x2 : Value} {t : TypeId} (h : w.heap[g]? = some (.cells #[x0, x1, x2] t)) (y0 y1 y2 : Value) : (st3 w g y0 y1 y2).heap[g]? = some (.cells #[y0, y1, y2] t) :=
  (setB (setB (setB h (p := 0) y0) (p := 1) y1) (p := 2) y2).trans (by simp)
/-- one, two borders in a new block -/
theorem frs_one (w : World) (a : Fr) (T : TypeId) : FrsAt (w.alloc (.cells #[.int .i64 a.s, .int .i64 a.w, .int .i64 a.c] T)) w.heap.size (.slice (some ⟨w.heap.size, 0, none⟩) 1 1) [a] :=
  ⟨_, 1, rfl, Nat.le_refl _, by decide, fun i hi => ⟨w.heap.size, 0, rfl, by simp, Nat.le_refl _, by
    obtain rfl : i = 0 := by simpa using hi
    exact ⟨cellB (newestB _ _), cellB (newestB _ _), cellB (newestB _ _)⟩⟩⟩
theorem frs_two (w : World) (a b : Fr) (T : TypeId) : FrsAt (w.alloc (.cells #[.int .i64 a.s, .int .i64 a.w, .int .i64 a.c, .int .i64 b.s, .int .i64 b.w, .int .i64 b.c] T)) w.heap.size (.slice (some ⟨w.heap.size, 0, none⟩) 2 2) [a, b] :=
  ⟨_, 2, rfl, Nat.le_refl _, by decide, fun i hi => ⟨w.heap.size, 0, rfl, by simp, Nat.le_refl _, by
    have hi : i < 2 := by simpa using hi
    rcases (by omega : i = 0 ∨ i = 1) with rfl | rfl
    · exact ⟨cellB (newestB _ _), cellB (newestB _ _), cellB (newestB _ _)⟩
    · exact ⟨cellB (newestB _ _), cellB (newestB _ _), cellB (newestB _ _)⟩⟩⟩
end Go.Proofs.Ytfkkhfiiokhnaag
namespace Go.Proofs.Ytfkkhfiiokhnaag
open Go.RowKit

def cnTo (rs : List R) (k : Nat) : Nat := ((rs.take k).map (fun x => x.cells.length)).sum
theorem cnTo_succ {rs : List R} {k : Nat} (h : k < rs.length) : cnTo rs (k + 1) = cnTo rs k + (rs.getD k dR).cells.length := by
  have e : rs.getD k dR = rs[k] := by simp [List.getD, h]
  rw [e]
  exact sum_take_succ (fun x : R => x.cells.length) rs k h
theorem cnTo_le (rs : List R) (k : Nat) : cnTo rs k ≤ totR rs := by
  have h1 := sum_take_le (fun x : R => x.cells.length) rs k
  have h2 : (rs.map (fun x : R => x.cells.length)).sum ≤ totR rs := by
    clear h1
    induction rs with
    | nil => simp [totR]
    | cons x r ih => have := totC_eq x.cells; simp [totR]; omega
  exact Nat.le_trans h1 h2
end Go.Proofs.Ytfkkhfiiokhnaag
namespace Go.Proofs.Ytfkkhfiiokhnaag
open Go.RowKit

section
variable {P : Program} {ops : Array Oper} {C : World → Prop}
/-- each operation ahead of z is waited for by a later one, up to z -/
def succB (ops : Array Oper) (z : Nat) : Bool := (List.range z).all fun i => (List.range (z + 1)).any fun j => decide (i < j) && edgeB ops j i
theorem all_ahead {z : Nat} {L : Nat → Bool} (hs : succB ops z = true) (hc : Closed ops L) {o : Oper} (ho : ops[z]? = some o) (ha : ∀ e ∈ o.after, Region.binds .any e = true → L e.on = true) : ∀ n i, z - i ≤ n → i < z → L i = true
  | 0, i, h, hi => by omega
  | n + 1, i, h, hi => by
    have h1 := List.all_eq_true.1 hs i (List.mem_range.2 hi)
    obtain ⟨j, hj, h2⟩ := List.any_eq_true.1 h1
    have hjz := List.mem_range.1 hj
    rw [Bool.and_eq_true] at h2
    obtain ⟨h3, h4⟩ := h2
    have h3 := of_decide_eq_true h3
    by_cases e : j = z
    · subst e
      unfold edgeB at h4
      rw [ho] at h4
      simp only [Option.map_some, Option.getD_some, List.any_eq_true, Bool.and_eq_true, beq_iff_eq] at h4
      obtain ⟨e, he1, he2, he3⟩ := h4
      have := ha e (by simpa using he1) he2
      rwa [he3] at this
    · have hLj := all_ahead hs hc ho ha n j (by omega) (by omega)
      cases hLi : L i with
      | true => rfl
      | false => rw [hc j i h4 hLi] at hLj; cases hLj
theorem closed_set {listed : Array Bool} {j : Nat} (h : Closed ops (fun k => listed.getD k false)) (hj : j ∈ Region.ready .any ops listed) : Closed ops (fun k => (listed.setIfInBounds j true).getD k false) := by
  obtain ⟨h0, o, ho, ha⟩ := mem_ready.1 hj
  have hlt : j < listed.size := by
    rcases Nat.lt_or_ge j listed.size with h' | h'
    · exact h'
    · rw [Array.getD_eq_getD_getElem?, Array.getElem?_eq_none h'] at h0
      cases h0
  rw [listed_set hlt]
  exact h.next ho ha
def wpAnyM (P : Program) (ops : Array Oper) (C : World → Prop) (z : Nat) (R : Act → Prop) : Nat → Array Bool → Act → Prop
  | 0, _, _ => False
  | fuel + 1, listed, a => Region.ready .any ops listed ≠ [] ∧ ∀ i ∈ Region.ready .any ops listed, if i = z then (fuel = 0 ∧ Region.ready .any ops (listed.setIfInBounds z true) = [] ∧ R a) else qOp P ops C i (wpAnyM P ops C z R fuel (listed.setIfInBounds i true)) a
theorem wpAny_of_M {Q : Exit → Act → World → Prop} {R : Act → Prop} {z : Nat} (hR : ∀ a w, C w → R a → wpOp P ops Q z (fun a' w' => Q .normal a' w') a w) : ∀ (fuel : Nat) (listed : Array Bool) (a : Act) (w : World), C w → wpAnyM P ops C z R fuel listed a → wpAny P .any ops Q fuel listed a w
  | 0, _, _, _, _, h => h.elim
  | fuel + 1, listed, a, w, hw, h => ⟨fun h0 => absurd h0 h.1, fun i hi => by
      have h2 := h.2 i hi
      by_cases hz : i = z
      · rw [if_pos hz] at h2
        obtain ⟨h3, hr, hRa⟩ := h2
        subst h3
        subst hz
        exact wpOp_mono (fun a' w' h' => ⟨hr, h'⟩) (hR a w hw hRa)
      · rw [if_neg hz] at h2
        exact wpOp_of_qOp hw (fun a' w' hw' => wpAny_of_M hR fuel _ a' w' hw') h2⟩
theorem wpAnyM_first {R : Act → Prop} {z i : Nat} {oi : Oper} {v : Value} (hs : succB ops z = true) (hi : ops[i]? = some oi) (hiz : i < z) (hsel : ∀ (j : Nat) (o : Oper) cs b, ops[j]? = some o → o.op ≠ .select cs b) :
    ∀ (fuel : Nat) (listed : Array Bool) (a : Act), Closed ops (fun k => listed.getD k false) →
      (∀ j oj, ops[j]? = some oj → j ≠ i → listed.getD j true = false → (∀ e ∈ oj.after, Region.binds .any e = true → e.on ≠ i) → oi.apart ops oj = true) →
      i ∈ Region.ready .any ops listed → YieldsIn P ops C oi v a →
      wpAnyM P ops C z R fuel (listed.setIfInBounds i true) (a.put oi.dst v) → wpAnyM P ops C z R (fuel + 1) listed a := by
  intro fuel
  induction fuel with
  | zero => intro listed a _ _ _ _ H; exact H.elim
  | succ fuel ih =>
    intro listed a hcl hfree hr hy H
    refine ⟨fun h => (by rw [h] at hr; cases hr), fun j hj => ?_⟩
    by_cases hji : j = i
    · rw [if_neg (by omega)]; subst hji; exact hy.qOp hi H
    · have hjz : j ≠ z := fun e => by
        subst e
        obtain ⟨_, o, ho, ha⟩ := mem_ready.1 hj
        have h1 := all_ahead hs hcl ho ha _ i (Nat.le_refl _) hiz
        have h0 := (mem_ready.1 hr).1
        rcases Nat.lt_or_ge i listed.size with h' | h'
        · simp [h'] at h0 h1; rw [h0] at h1; cases h1
        · simp [Array.getElem?_eq_none h'] at h1
      rw [if_neg hjz]
      have h1 := H.2 j (ready_mono hj hji)
      rw [if_neg hjz] at h1
      obtain ⟨hjun, oj, hoj, hall⟩ := mem_ready.1 hj
      have hnot : ∀ e ∈ oj.after, Region.binds .any e = true → e.on ≠ i := fun e he hb heq => by
        have h1 := hall e he hb
        have h0 := (mem_ready.1 hr).1
        rw [heq] at h1
        rcases Nat.lt_or_ge i listed.size with h' | h'
        · simp [h'] at h0 h1; rw [h0] at h1; cases h1
        · simp [Array.getElem?_eq_none h'] at h1
      have h2 := qOp_put hoj (hfree j oj hoj hji hjun hnot) (fun cs b => hsel i oi cs b hi) (fun cs b => hsel j oj cs b hoj) hy h1
      have hfree' : ∀ k ok, ops[k]? = some ok → k ≠ i → (listed.setIfInBounds j true).getD k true = false →
          (∀ e ∈ ok.after, Region.binds .any e = true → e.on ≠ i) → oi.apart ops ok = true := fun k ok hk hki hun hno => by
        refine hfree k ok hk hki ?_ hno
        by_cases hjk : j = k
        · subst hjk; exact hjun
        · rw [getD_set_ne true hjk] at hun; exact hun
      refine qOp_mono (fun a' h3 => ih (listed.setIfInBounds j true) a' (closed_set hcl hj) hfree' (ready_mono hr (Ne.symm hji)) h3.1 ?_) h2
      rw [Array.setIfInBounds_comm _ _ hji]
      exact h3.2
theorem wpAnyM_lex {R : Act → Prop} {z : Nat} (hns : Region.noSelect ops = true) (hs : succB ops z = true) : ∀ (l : List Oper) (k : Nat) (listed : Array Bool) (a : Act), k + l.length = z → (∀ j, j < l.length → l[j]? = ops[k + j]?) → Closed ops (fun k => listed.getD k false) →
    Region.lexFrom .any ops (l.length + 1) k listed = true → wpQuiet P ops C R l a → wpAnyM P ops C z R (l.length + 1) listed a
  | [], k, listed, a, hk, _, _, hB, h => by
    simp only [List.length_nil, Region.lexFrom, Bool.and_eq_true] at hB
    obtain ⟨⟨hr, _⟩, he⟩ := hB
    have hk' : k = z := by simpa using hk
    subst hk'
    have hr' : k ∈ Region.ready .any ops listed := by simpa using hr
    have he' : Region.ready .any ops (listed.setIfInBounds k true) = [] := by simpa using he
    refine ⟨fun h => (by rw [h] at hr'; cases hr'), fun i hi => ?_⟩
    by_cases hik : i = k
    · rw [if_pos hik]; exact ⟨rfl, he', h⟩
    · have := ready_mono hi hik
      rw [he'] at this
      cases this
  | o :: l, k, listed, a, hk, hl, hcl, hB, h => by
    have h0 : ops[k]? = some o := by simpa using (hl 0 (by simp)).symm
    simp only [List.length_cons] at hk hB ⊢
    rw [Region.lexFrom] at hB
    simp only [Bool.and_eq_true] at hB
    obtain ⟨⟨hr, hf⟩, hB'⟩ := hB
    have hr' : k ∈ Region.ready .any ops listed := by simpa using hr
    have hst : qOp P ops C k (wpQuiet P ops C R l) a := by unfold qOp; simp only [h0]; exact h
    obtain ⟨v, hy, hK⟩ := yieldsIn_of_qOp h0 hst
    exact wpAnyM_first hs h0 (by omega) (Region.noSelect_spec hns) (l.length + 1) listed a hcl (Region.free_spec h0 hf) hr' hy
      (wpAnyM_lex hns hs l (k + 1) _ _ (by omega) (fun j hj => by have := hl (j + 1) (by simpa using hj); simpa [Nat.add_assoc, Nat.add_comm 1 j] using this) (closed_set hcl hr') hB' hK)
end
/-- the walk: what only reads in the text's order, then the last operation -/
theorem wp_region_last {P : Program} {id : Nat} {Q : Exit → Act → World → Prop} {a : Act} {w : World} {l : List Oper} (n : Nat) {o : Oper} (hm : P.follows .mixedOrders = true) (hl : l.length = n + 1) (ho : l[n]? = some o) (hB : Region.lexB .any l.toArray = true) (hs : succB l.toArray n = true)
    (h : wpQuiet P l.toArray (fun w' => ∃ p : BW w, w' = p.u) (fun a' => ∀ w', (∃ p : BW w, w' = p.u) → if Region.wanted o (yielded l.toArray a'.tmps) = true then o.wp P a' w' (fun a w => Q .normal a w) Q else Q .normal (a'.put o.dst undef) w') (l.take n) a) : (Code.region id l.toArray true).wp P Q a w := by
  simp only [Region.lexB, Bool.and_eq_true] at hB
  have hlt : (l.take n).length = n := by rw [List.length_take]; omega
  refine wp_region_any hm (wpAny_of_M (C := fun w' => ∃ p : BW w, w' = p.u) (z := n) (R := fun a' => ∀ w', (∃ p : BW w, w' = p.u) → if Region.wanted o (yielded l.toArray a'.tmps) = true then o.wp P a' w' (fun a w => Q .normal a w) Q else Q .normal (a'.put o.dst undef) w') ?_ _ _ _ _ ⟨⟨_, k_drew (Below.refl _ _)⟩, rfl⟩ ?_)
  · intro a' w' hw' hR
    have h1 := hR w' hw'
    unfold wpOp
    rw [show l.toArray[n]? = some o by simpa using ho]
    dsimp only
    split
    · rename_i hw; rw [if_pos hw] at h1; exact .inl h1
    · rename_i hw; rw [if_neg hw] at h1; exact h1
  · have := wpAnyM_lex (P := P) (C := fun w' => ∃ p : BW w, w' = p.u) hB.1 hs (l.take n) 0 (Array.replicate l.toArray.size false) a (by omega) (fun j hj => by rw [hlt] at hj; simp [hj]) (fun j i _ _ => by
      show (Array.replicate l.toArray.size false).getD j false = false
      rw [Array.getD_eq_getD_getElem?, Array.getElem?_replicate]
      split <;> rfl) (by rw [hlt, ← hl]; simpa using hB.2) h
    rw [hlt, ← hl] at this
    simpa using this
end Go.Proofs.Ytfkkhfiiokhnaag
namespace Go.Proofs.Ytfkkhfiiokhnaag
open Go.RowKit

theorem ret_boolG {a b : Bool} (h : a = b) : Ending.returned (.bool a) = .returned (.bool b) := by rw [h]
def isIn (row ins : Int) (x : GC) : Bool := (x.row == row) && (x.ins == ins)
/-- whether a place is one of so many from a first one on -/
def amongB (x first many : Int) : Bool := decide (first ≤ x) && decide (0 < many) && decide (x - first < many)
def holdsB (row col : Int) (x : GC) : Bool := amongB row x.row x.rows && amongB col x.col x.cols

theorem lt_of_blockG {w : World} {g : Nat} {o : Obj} (h : w.heap[g]? = some o) : g < w.heap.size := (Array.getElem?_eq_some_iff.1 h).1

theorem wrap_sub {x f : Int} (hx : -9223372036854775808 ≤ x ∧ x ≤ 9223372036854775807) (hf : -9223372036854775808 ≤ f ∧ f ≤ 9223372036854775807) (h : f ≤ x) : IntKind.u64.wrap (IntKind.u64.wrap x - IntKind.u64.wrap f) = x - f := by
  simp [IntKind.wrap, IntKind.bits, IntKind.signed]
  omega

end Go.Proofs.Ytfkkhfiiokhnaag
namespace Go.Proofs.Ytfkkhfiiokhnaag
open Go.RowKit

theorem reaches_any (x f m : Int) (hx : I64 x) (hf : I64 f) (hm : I64 m) (w : World) :
    Calls Try.prog 62 #[.int .i64 f, .int .i64 m, .int .i64 x] w fun e w' => e = .returned (.bool (amongB x f m)) ∧ w' = w := by
  unfold I64 at hx hf hm
  by_cases h1 : f ≤ x
  · by_cases h2 : 0 < m
    · have e : amongB x f m = decide (x - f < m) := by simp [amongB]; omega
      rw [e]
      go_enter Try.func62, Try.ntmps62
      go_wp2
      go_ret
      exact ⟨ret_boolG (by rw [wrap_sub hx hf h1]), rfl⟩
    · have e : amongB x f m = false := by simp [amongB]; omega
      rw [e]
      go_enter Try.func62, Try.ntmps62
      go_wp2
      go_ret
      exact ⟨rfl, rfl⟩
  · have e : amongB x f m = false := by simp [amongB]; omega
    rw [e]
    go_enter Try.func62, Try.ntmps62
    go_wp2
    go_ret
    exact ⟨rfl, rfl⟩
end Go.Proofs.Ytfkkhfiiokhnaag
namespace Go.Proofs.Ytfkkhfiiokhnaag
open Go.RowKit

set_option maxRecDepth 100000 in
set_option maxHeartbeats 1000000 in
theorem implGrdAt (a b : Int) (ac : Option Addr) (cc : Nat) (gs : List GC) (row col : Int) (hr : I64 row) (hc : I64 col) (w : World) {z : Nat} (h : GsAt w z (.slice ac gs.length cc) gs) :
    Calls Try.prog 29 #[.agg #[.int .i64 a, .int .i64 b, .slice ac gs.length cc], .int .i64 row, .int .i64 col] w fun e w' => e = .returned (.int .i64 (findTo (holdsB row col) gs)) ∧ Below w.heap.size w w' := by
  obtain ⟨_, _, _, hlen⟩ := At.form h
  unfold maxLen at hlen
  have H := Hid.intro h
  clear h
  go_enter Try.func29, Try.ntmps29
  go_wp2_with fail
  go_loopw [12] (fun i W => ∃ k : Nat, k ≤ gs.length ∧ i = .int .i64 k ∧ Hid (∀ j, j < k → holdsB row col (gs.getD j dG) = false) ∧ Hid (Below w.heap.size w W)) (fun i _ => gs.length - (intOf i).toNat)
  case atStart => exact ⟨0, Nat.zero_le _, rfl, fun j hj => absurd hj (Nat.not_lt_zero _), k_alloc (Below.refl _ _) _⟩
  case round =>
    obtain ⟨k, hk, rfl, HA, HB⟩ := hrel
    by_cases hlt : k < gs.length
    · obtain ⟨q, off, cap', e', hc1, hc2, hbl, hx, hs⟩ := At.get (H.out.kept HB.out) hlt
      simp only [Value.slice.injEq, true_and] at e'
      obtain ⟨rfl, rfl⟩ := e'
      have HH : Hid (holdsB row col (gs.getD k dG) = true → findTo (holdsB row col) gs = (k : Int)) := fun hp => findTo_hit hlt HA.out hp
      have HN : Hid (holdsB row col (gs.getD k dG) = false → ∀ j, j < k + 1 → holdsB row col (gs.getD j dG) = false) := fun hp j hj => by
        rcases Nat.lt_or_eq_of_le (Nat.lt_succ_iff.1 hj) with h1 | rfl
        · exact HA.out j h1
        · exact hp
      generalize gs.getD k dG = x at hx hs HH HN
      obtain ⟨x0, x1, x2, x3, x4⟩ := hx
      obtain ⟨b0, b1, b2, b3, _⟩ := hs
      have H1 := Hid.intro (reaches_any row x.row x.rows hr b0 b2)
      have H2 := Hid.intro (reaches_any col x.col x.cols hc b1 b3)
      unfold maxLen at hc2
      clear b0 b1 b2 b3
      cases h1 : amongB row x.row x.rows with
      | false =>
        have HF := Hid.intro (HN.out (by simp only [holdsB, h1, Bool.false_and]))
        rw [h1] at H1
        clear HH HN HA
        go_wp2_with fail
        refine (H1.out _).mono ?_
        rintro e w1 ⟨rfl, rfl⟩
        go_wp2
        go_roundw
        case rel => exact ⟨k + 1, by omega, by go_num, HF, k_alloc HB.out _⟩
        case measure => simp [intOf]; omega
      | true =>
        rw [h1] at H1
        cases h2 : amongB col x.col x.cols with
        | false =>
          have HF := Hid.intro (HN.out (by simp only [holdsB, h2, Bool.and_false]))
          rw [h2] at H2
          clear HH HN HA
          go_wp2_with fail
          refine (H1.out _).mono ?_
          rintro e w1 ⟨rfl, rfl⟩
          go_wp2_with fail
          refine (H2.out _).mono ?_
          rintro e w1 ⟨rfl, rfl⟩
          go_wp2
          go_roundw
          case rel => exact ⟨k + 1, by omega, by go_num, HF, k_alloc HB.out _⟩
          case measure => simp [intOf]; omega
        | true =>
          have HF := Hid.intro (HH.out (by simp only [holdsB, h1, h2, Bool.and_self]))
          rw [h2] at H2
          clear HH HN HA
          go_wp2_with fail
          refine (H1.out _).mono ?_
          rintro e w1 ⟨rfl, rfl⟩
          go_wp2_with fail
          refine (H2.out _).mono ?_
          rintro e w1 ⟨rfl, rfl⟩
          go_wp2
          go_ret
          exact ⟨by rw [HF.out]; rfl, k_alloc HB.out _⟩
    · obtain rfl : k = gs.length := by omega
      have HF := Hid.intro (findTo_none HA.out)
      clear HA
      go_wp2
      go_ret
      exact ⟨by rw [HF.out]; rfl, HB.out⟩

end Go.Proofs.Ytfkkhfiiokhnaag
namespace Go.Proofs.Ytfkkhfiiokhnaag
open Go.RowKit

set_option maxRecDepth 100000 in
set_option maxHeartbeats 400000 in
theorem implbeats (a b c d : Int) (w : World) :
    Calls Try.prog 45 #[.agg #[.int .i64 a, .int .i64 b], .agg #[.int .i64 c, .int .i64 d]] w fun e w' => e = .returned (.bool (beatsB a b c d)) ∧ w' = (w.alloc (.cells #[.int .i64 a, .int .i64 b] 34)).alloc (.cells #[.int .i64 c, .int .i64 d] 34) := by
  by_cases ha : a = 4
  · subst ha
    by_cases hc : c = 4
    · subst hc
      have HB := Hid.intro (beats_hid2 (a := 4) b d)
      go_enter Try.func45, Try.ntmps45
      go_wp2
      go_ret
      exact ⟨retB HB.out.symm, rfl⟩
    · have e1 : (c == 4) = false := beq_eq_false_iff_ne.2 hc
      have e2 : (c != 4) = true := bne_iff_ne.2 hc
      have HB := Hid.intro (beats_hid1 b d hc)
      clear hc
      go_enter Try.func45, Try.ntmps45
      go_wp2
      go_ret
      exact ⟨retB HB.out.symm, rfl⟩
  have a1 : (a == 4) = false := beq_eq_false_iff_ne.2 ha
  by_cases hc : c = 4
  · subst hc
    have HB := Hid.intro (beats_hid2 (a := a) b d)
    clear ha
    go_enter Try.func45, Try.ntmps45
    go_wp2
    go_ret
    exact ⟨retB HB.out.symm, rfl⟩
  have e1 : (c == 4) = false := beq_eq_false_iff_ne.2 hc
  by_cases h : b = d
  · subst h
    have HB := Hid.intro (beats_style (b := b) ha hc)
    clear ha hc
    go_enter Try.func45, Try.ntmps45
    go_wp2
    go_ret
    exact ⟨retB HB.out.symm, rfl⟩
  · have h1 : (b != d) = true := bne_iff_ne.2 h
    have HB := Hid.intro (beats_wide ha hc h)
    clear ha hc h
    go_enter Try.func45, Try.ntmps45
    go_wp2
    go_ret
    exact ⟨retB HB.out.symm, rfl⟩

set_option maxRecDepth 100000 in
theorem implBrdBeats (a b c d : Int) (w : World) :
    Calls Try.prog 15 #[.agg #[.int .i64 a, .int .i64 b], .agg #[.int .i64 c, .int .i64 d]] w fun e w' => e = .returned (.bool (beatsB a b c d)) ∧ Below w.heap.size w w' := by
  go_enter Try.func15, Try.ntmps15
  go_wp2_with fail
  refine (implbeats _ _ _ _ _).mono ?_
  rintro e w1 ⟨rfl, rfl⟩
  go_wp2
  go_ret
  exact ⟨rfl, by repeat (first | exact Below.refl _ _ | apply k_alloc)⟩
end Go.Proofs.Ytfkkhfiiokhnaag
