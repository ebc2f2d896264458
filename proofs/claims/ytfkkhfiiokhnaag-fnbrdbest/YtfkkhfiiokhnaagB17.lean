/-
  PROVED HERE: how many cells rows have together. Also: a region that draws its order, whose operations but the last one only read (their callees turn nothing that was in memory), and whose last operation waits for all others, may be walked once, in its text's order; the last operation may turn memory. Also: small facts on places of a grid, for the other texts of this claim. Also: what the program's reaches answers at every argument; nothing in memory is turned. Also: lists of numbers in memory, read (IntsAt) or in a block of their own (RowI), for the other texts of this claim. Also: the laws' own pwOk says true; nothing in memory is turned.
-/
import Derived.Test.YtfkkhfiiokhnaagB4
import Derived.Test.YtfkkhfiiokhnaagB5
import Derived.Test.YtfkkhfiiokhnaagB12
import Derived.Test.YtfkkhfiiokhnaagB6
import Derived.Test.YtfkkhfiiokhnaagB7
import Derived.WalkLawsBesides
import Derived.WalkSpells
import Derived.Laws.AppendOwn
namespace Go.Proofs.Ytfkkhfiiokhnaag
open Go.RowKit

def cnTo (rs : List R) (k : Nat) : Nat := ((rs.take k).map (fun x => x.cells.length)).sum
theorem cnTo_succ {rs : List R} {k : Nat} (h : k < rs.length) : cnTo rs (k + 1) = cnTo rs k + (rs.getD k dR).cells.length := by
  have e : rs.getD k dR = rs[k] := by simp [List.getD, h]
  rw [e]
  exact sum_take_succ (fun x : R => x.cells.length) rs k h
theorem cnTo_le (rs : List R) (k : Nat) : cnTo rs k ≤ totR rs := by
  have h1 := sum_take_le (fun x : R => x.cells.length) rs k
  have h2 : (rs.map (fun x : R => x.cells.length)).sum ≤ totR rs := by
    clear h1
    induction rs with
    | nil => simp [totR]
    | cons x r ih => have := totC_eq x.cells; simp [totR]; omega
  exact Nat.le_trans h1 h2
end Go.Proofs.Ytfkkhfiiokhnaag
namespace Go.Proofs.Ytfkkhfiiokhnaag
open Go.RowKit

section
variable {P : Program} {ops : Array Oper} {C : World → Prop}
/-- each operation ahead of z is waited for by a later one, up to z -/
def succB (ops : Array Oper) (z : Nat) : Bool := (List.range z).all fun i => (List.range (z + 1)).any fun j => decide (i < j) && edgeB ops j i
theorem all_ahead {z : Nat} {L : Nat → Bool} (hs : succB ops z = true) (hc : Closed ops L) {o : Oper} (ho : ops[z]? = some o) (ha : ∀ e ∈ o.after, Region.binds .any e = true → L e.on = true) : ∀ n i, z - i ≤ n → i < z → L i = true
  | 0, i, h, hi => by omega
  | n + 1, i, h, hi => by
    have h1 := List.all_eq_true.1 hs i (List.mem_range.2 hi)
    obtain ⟨j, hj, h2⟩ := List.any_eq_true.1 h1
    have hjz := List.mem_range.1 hj
    rw [Bool.and_eq_true] at h2
    obtain ⟨h3, h4⟩ := h2
    have h3 := of_decide_eq_true h3
    by_cases e : j = z
    · subst e
      unfold edgeB at h4
      rw [ho] at h4
      simp only [Option.map_some, Option.getD_some, List.any_eq_true, Bool.and_eq_true, beq_iff_eq] at h4
      obtain ⟨e, he1, he2, he3⟩ := h4
      have := ha e (by simpa using he1) he2
      rwa [he3] at this
    · have hLj := all_ahead hs hc ho ha n j (by omega) (by omega)
      cases hLi : L i with
      | true => rfl
      | false => rw [hc j i h4 hLi] at hLj; cases hLj
theorem closed_set {listed : Array Bool} {j : Nat} (h : Closed ops (fun k => listed.getD k false)) (hj : j ∈ Region.ready .any ops listed) : Closed ops (fun k => (listed.setIfInBounds j true).getD k false) := by
  obtain ⟨h0, o, ho, ha⟩ := mem_ready.1 hj
  have hlt : j < listed.size := by
    rcases Nat.lt_or_ge j listed.size with h' | h'
    · exact h'
    · rw [Array.getD_eq_getD_getElem?, Array.getElem?_eq_none h'] at h0
      cases h0
  rw [listed_set hlt]
  exact h.next ho ha
def wpAnyM (P : Program) (ops : Array Oper) (C : World → Prop) (z : Nat) (R : Act → Prop) : Nat → Array Bool → Act → Prop
  | 0, _, _ => False
  | fuel + 1, listed, a => Region.ready .any ops listed ≠ [] ∧ ∀ i ∈ Region.ready .any ops listed, if i = z then (fuel = 0 ∧ Region.ready .any ops (listed.setIfInBounds z true) = [] ∧ R a) else qOp P ops C i (wpAnyM P ops C z R fuel (listed.setIfInBounds i true)) a
theorem wpAny_of_M {Q : Exit → Act → World → Prop} {R : Act → Prop} {z : Nat} (hR : ∀ a w, C w → R a → wpOp P ops Q z (fun a' w' => Q .normal a' w') a w) : ∀ (fuel : Nat) (listed : Array Bool) (a : Act) (w : World), C w → wpAnyM P ops C z R fuel listed a → wpAny P .any ops Q fuel listed a w
  | 0, _, _, _, _, h => h.elim
  | fuel + 1, listed, a, w, hw, h => ⟨fun h0 => absurd h0 h.1, fun i hi => by
      have h2 := h.2 i hi
      by_cases hz : i = z
      · rw [if_pos hz] at h2
        obtain ⟨h3, hr, hRa⟩ := h2
        subst h3
        subst hz
        exact wpOp_mono (fun a' w' h' => ⟨hr, h'⟩) (hR a w hw hRa)
      · rw [if_neg hz] at h2
        exact wpOp_of_qOp hw (fun a' w' hw' => wpAny_of_M hR fuel _ a' w' hw') h2⟩
theorem wpAnyM_first {R : Act → Prop} {z i : Nat} {oi : Oper} {v : Value} (hs : succB ops z = true) (hi : ops[i]? = some oi) (hiz : i < z) (hsel : ∀ (j : Nat) (o : Oper) cs b, ops[j]? = some o → o.op ≠ .select cs b) :
    ∀ (fuel : Nat) (listed : Array Bool) (a : Act), Closed ops (fun k => listed.getD k false) →
      (∀ j oj, ops[j]? = some oj → j ≠ i → listed.getD j true = false → (∀ e ∈ oj.after, Region.binds .any e = true → e.on ≠ i) → oi.apart ops oj = true) →
      i ∈ Region.ready .any ops listed → YieldsIn P ops C oi v a →
      wpAnyM P ops C z R fuel (listed.setIfInBounds i true) (a.put oi.dst v) → wpAnyM P ops C z R (fuel + 1) listed a := by
  intro fuel
  induction fuel with
  | zero => intro listed a _ _ _ _ H; exact H.elim
  | succ fuel ih =>
    intro listed a hcl hfree hr hy H
    refine ⟨fun h => (by rw [h] at hr; cases hr), fun j hj => ?_⟩
    by_cases hji : j = i
    · rw [if_neg (by omega)]; subst hji; exact hy.qOp hi H
    · have hjz : j ≠ z := fun e => by
        subst e
        obtain ⟨_, o, ho, ha⟩ := mem_ready.1 hj
        have h1 := all_ahead hs hcl ho ha _ i (Nat.le_refl _) hiz
        have h0 := (mem_ready.1 hr).1
        rcases Nat.lt_or_ge i listed.size with h' | h'
        · simp [h'] at h0 h1; rw [h0] at h1; cases h1
        · simp [Array.getElem?_eq_none h'] at h1
      rw [if_neg hjz]
      have h1 := H.2 j (ready_mono hj hji)
      rw [if_neg hjz] at h1
      obtain ⟨hjun, oj, hoj, hall⟩ := mem_ready.1 hj
      have hnot : ∀ e ∈ oj.after, Region.binds .any e = true → e.on ≠ i := fun e he hb heq => by
        have h1 := hall e he hb
        have h0 := (mem_ready.1 hr).1
        rw [heq] at h1
        rcases Nat.lt_or_ge i listed.size with h' | h'
        · simp [h'] at h0 h1; rw [h0] at h1; cases h1
        · simp [Array.getElem?_eq_none h'] at h1
      have h2 := qOp_put hoj (hfree j oj hoj hji hjun hnot) (fun cs b => hsel i oi cs b hi) (fun cs b => hsel j oj cs b hoj) hy h1
      have hfree' : ∀ k ok, ops[k]? = some ok → k ≠ i → (listed.setIfInBounds j true).getD k true = false →
          (∀ e ∈ ok.after, Region.binds .any e = true → e.on ≠ i) → oi.apart ops ok = true := fun k ok hk hki hun hno => by
        refine hfree k ok hk hki ?_ hno
        by_cases hjk : j = k
        · subst hjk; exact hjun
        · rw [getD_set_ne true hjk] at hun; exact hun
      refine qOp_mono (fun a' h3 => ih (listed.setIfInBounds j true) a' (closed_set hcl hj) hfree' (ready_mono hr (Ne.symm hji)) h3.1 ?_) h2
      rw [Array.setIfInBounds_comm _ _ hji]
      exact h3.2
theorem wpAnyM_lex {R : Act → Prop} {z : Nat} (hns : Region.noSelect ops = true) (hs : succB ops z = true) : ∀ (l : List Oper) (k : Nat) (listed : Array Bool) (a : Act), k + l.length = z → (∀ j, j < l.length → l[j]? = ops[k + j]?) → Closed ops (fun k => listed.getD k false) →
    Region.lexFrom .any ops (l.length + 1) k listed = true → wpQuiet P ops C R l a → wpAnyM P ops C z R (l.length + 1) listed a
  | [], k, listed, a, hk, _, _, hB, h => by
    simp only [List.length_nil, Region.lexFrom, Bool.and_eq_true] at hB
    obtain ⟨⟨hr, _⟩, he⟩ := hB
    have hk' : k = z := by simpa using hk
    subst hk'
    have hr' : k ∈ Region.ready .any ops listed := by simpa using hr
    have he' : Region.ready .any ops (listed.setIfInBounds k true) = [] := by simpa using he
    refine ⟨fun h => (by rw [h] at hr'; cases hr'), fun i hi => ?_⟩
    by_cases hik : i = k
    · rw [if_pos hik]; exact ⟨rfl, he', h⟩
    · have := ready_mono hi hik
      rw [he'] at this
      cases this
  | o :: l, k, listed, a, hk, hl, hcl, hB, h => by
    have h0 : ops[k]? = some o := by simpa using (hl 0 (by simp)).symm
    simp only [List.length_cons] at hk hB ⊢
    rw [Region.lexFrom] at hB
    simp only [Bool.and_eq_true] at hB
    obtain ⟨⟨hr, hf⟩, hB'⟩ := hB
    have hr' : k ∈ Region.ready .any ops listed := by simpa using hr
    have hst : qOp P ops C k (wpQuiet P ops C R l) a := by unfold qOp; simp only [h0]; exact h
    obtain ⟨v, hy, hK⟩ := yieldsIn_of_qOp h0 hst
    exact wpAnyM_first hs h0 (by omega) (Region.noSelect_spec hns) (l.length + 1) listed a hcl (Region.free_spec h0 hf) hr' hy
      (wpAnyM_lex hns hs l (k + 1) _ _ (by omega) (fun j hj => by have := hl (j + 1) (by simpa using hj); simpa [Nat.add_assoc, Nat.add_comm 1 j] using this) (closed_set hcl hr') hB' hK)
end
/-- the walk: what only reads in the text's order, then the last operation -/
theorem wp_region_last {P : Program} {id : Nat} {Q : Exit → Act → World → Prop} {a : Act} {w : World} {l : List Oper} (n : Nat) {o : Oper} (hm : P.follows .mixedOrders = true) (hl : l.length = n + 1) (ho : l[n]? = some o) (hB : Region.lexB .any l.toArray = true) (hs : succB l.toArray n = true)
    (h : wpQuiet P l.toArray (fun w' => ∃ p : BW w, w' = p.u) (fun a' => ∀ w', (∃ p : BW w, w' = p.u) → if Region.wanted o (yielded l.toArray a'.tmps) = true then o.wp P a' w' (fun a w => Q .normal a w) Q else Q .normal (a'.put o.dst undef) w') (l.take n) a) : (Code.region id l.toArray true).wp P Q a w := by
  simp only [Region.lexB, Bool.and_eq_true] at hB
  have hlt : (l.take n).length = n := by rw [List.length_take]; omega
  refine wp_region_any hm (wpAny_of_M (C := fun w' => ∃ p : BW w, w' = p.u) (z := n) (R := fun a' => ∀ w', (∃ p : BW w, w' = p.u) → if Region.wanted o (yielded l.toArray a'.tmps) = true then o.wp P a' w' (fun a w => Q .normal a w) Q else Q .normal (a'.put o.dst undef) w') ?_ _ _ _ _ ⟨⟨_, k_drew (Below.refl _ _)⟩, rfl⟩ ?_)
  · intro a' w' hw' hR
    have h1 := hR w' hw'
    unfold wpOp
    rw [show l.toArray[n]? = some o by simpa using ho]
    dsimp only
    split
    · rename_i hw; rw [if_pos hw] at h1; exact .inl h1
    · rename_i hw; rw [if_neg hw] at h1; exact h1
  · have := wpAnyM_lex (P := P) (C := fun w' => ∃ p : BW w, w' = p.u) hB.1 hs (l.take n) 0 (Array.replicate l.toArray.size false) a (by omega) (fun j hj => by rw [hlt] at hj; simp [hj]) (fun j i _ _ => by
      show (Array.replicate l.toArray.size false).getD j false = false
      rw [Array.getD_eq_getD_getElem?, Array.getElem?_replicate]
      split <;> rfl) (by rw [hlt, ← hl]; simpa using hB.2) h
    rw [hlt, ← hl] at this
    simpa using this
end Go.Proofs.Ytfkkhfiiokhnaag
namespace Go.Proofs.Ytfkkhfiiokhnaag
open Go.RowKit

theorem ret_boolG {a b : Bool} (h : a = b) : Ending.returned (.bool a) = .returned (.bool b) := by rw [h]
def isIn (row ins : Int) (x : GC) : Bool := (x.row == row) && (x.ins == ins)
/-- whether a place is one of so many from a first one on -/
def amongB (x first many : Int) : Bool := decide (first ≤ x) && decide (0 < many) && decide (x - first < many)
def holdsB (row col : Int) (x : GC) : Bool := amongB row x.row x.rows && amongB col x.col x.cols

theorem lt_of_blockG {w : World} {g : Nat} {o : Obj} (h : w.heap[g]? = some o) : g < w.heap.size := (Array.getElem?_eq_some_iff.1 h).1

theorem wrap_sub {x f : Int} (hx : -9223372036854775808 ≤ x ∧ x ≤ 9223372036854775807) (hf : -9223372036854775808 ≤ f ∧ f ≤ 9223372036854775807) (h : f ≤ x) : IntKind.u64.wrap (IntKind.u64.wrap x - IntKind.u64.wrap f) = x - f := by
  simp [IntKind.wrap, IntKind.bits, IntKind.signed]
  omega

end Go.Proofs.Ytfkkhfiiokhnaag
namespace Go.Proofs.Ytfkkhfiiokhnaag
open Go.RowKit

theorem reaches_any (x f m : Int) (hx : I64 x) (hf : I64 f) (hm : I64 m) (w : World) :
    Calls Try.prog 62 #[.int .i64 f, .int .i64 m, .int .i64 x] w fun e w' => e = .returned (.bool (amongB x f m)) ∧ w' = w := by
  unfold I64 at hx hf hm
  by_cases h1 : f ≤ x
  · by_cases h2 : 0 < m
    · have e : amongB x f m = decide (x - f < m) := by simp [amongB]; omega
      rw [e]
      go_enter Try.func62, Try.ntmps62
      go_wp2
      go_ret
      exact ⟨ret_boolG (by rw [wrap_sub hx hf h1]), rfl⟩
    · have e : amongB x f m = false := by simp [amongB]; omega
      rw [e]
      go_enter Try.func62, Try.ntmps62
      go_wp2
      go_ret
      exact ⟨rfl, rfl⟩
  · have e : amongB x f m = false := by simp [amongB]; omega
    rw [e]
    go_enter Try.func62, Try.ntmps62
    go_wp2
    go_ret
    exact ⟨rfl, rfl⟩
end Go.Proofs.Ytfkkhfiiokhnaag
namespace Go.Proofs.Ytfkkhfiiokhnaag
open Go.RowKit

/-- a list of numbers that can be read -/
def IntsAt (w : World) (v : Value) (l : List Int) : Prop :=
  ∃ (a : Option Addr) (cap : Nat), v = .slice a l.length cap ∧ l.length ≤ cap ∧ cap ≤ maxLen ∧ ∀ i, i < l.length → ∃ b off, a = some ⟨b, off, none⟩ ∧ b < w.heap.size ∧ w.cell? ⟨b, off + i, none⟩ = some (.int .i64 (l.getD i 0))
theorem IntsAt.form {w : World} {v : Value} {l : List Int} (h : IntsAt w v l) : ∃ a cap, v = .slice a l.length cap ∧ l.length ≤ 9223372036854775807 := by
  obtain ⟨a, cap, hv, h1, h2, _⟩ := h
  unfold maxLen at h2
  exact ⟨a, cap, hv, by omega⟩
theorem IntsAt.get {w : World} {v : Value} {l : List Int} (h : IntsAt w v l) {i : Nat} (hi : i < l.length) :
    ∃ b off cap, v = .slice (some ⟨b, off, none⟩) l.length cap ∧ l.length ≤ cap ∧ cap ≤ maxLen ∧ b < w.heap.size ∧ w.cell? ⟨b, off + i, none⟩ = some (.int .i64 (l.getD i 0)) := by
  obtain ⟨a, cap, hv, h1, h2, h3⟩ := h
  obtain ⟨b, off, rfl, h4, h5⟩ := h3 i hi
  exact ⟨b, off, cap, hv, h1, h2, h4, h5⟩
theorem IntsAt.kept {w w' : World} {v : Value} {l : List Int} (h : IntsAt w v l) (k : Below w.heap.size w w') : IntsAt w' v l := by
  obtain ⟨a, cap, hv, h1, h2, h3⟩ := h
  refine ⟨a, cap, hv, h1, h2, fun i hi => ?_⟩
  obtain ⟨b, off, h4, h5, h6⟩ := h3 i hi
  exact ⟨b, off, h4, Nat.lt_of_lt_of_le h5 k.size, (k.cell (p := ⟨b, off + i, none⟩) h5).trans h6⟩

/-- a list of numbers in a block of its own, at B or behind it, ahead of D -/
def RowI (w : World) (B D : Nat) (v : Value) (l : List Int) : Prop :=
  (v = .slice none 0 0 ∧ l = []) ∨ ∃ g cap cur, v = .slice (some ⟨g, 0, none⟩) l.length cap ∧ B ≤ g ∧ g < D ∧ w.heap[g]? = some (.cells cur 3 (0, 0)) ∧ l.length ≤ cap ∧ cap ≤ maxLen ∧ cur.size = cap ∧ ∀ i, i < l.length → cur[i]? = some (.int .i64 (l.getD i 0))
theorem RowI.of_owns {w : World} {B : Nat} {v : Value} {l : List Int} (h : w.ownsRow B 3 1 v l.length (l.map (Value.int .i64))) : RowI w B w.heap.size v l := by
  rcases h.2 with ⟨hv, h0⟩ | ⟨g, cap, cur, hv, hb, hg, h1, h2, h3, h4⟩
  · exact .inl ⟨hv, List.eq_nil_of_length_eq_zero h0⟩
  · refine .inr ⟨g, cap, cur, hv, hb, (Array.getElem?_eq_some_iff.1 hg).1, hg, h1, h2, by omega, fun i hi => ?_⟩
    have : cur.toList[i]? = (l.map (Value.int .i64))[i]? := by rw [← h4, List.getElem?_take_of_lt (by omega)]
    rw [← Array.getElem?_toList, this]
    simp [List.getD, hi]
theorem RowI.owns {w : World} {B D : Nat} {v : Value} {l : List Int} (h : RowI w B D v l) : w.ownsRow B 3 1 v l.length (l.map (Value.int .i64)) := by
  refine ⟨by simp, ?_⟩
  rcases h with ⟨hv, rfl⟩ | ⟨g, cap, cur, hv, hb, hd, hg, h1, h2, h3, h4⟩
  · exact .inl ⟨hv, rfl⟩
  · refine .inr ⟨g, cap, cur, hv, hb, hg, h1, h2, by omega, ?_⟩
    apply List.ext_getElem?
    intro i
    by_cases hi : i < l.length
    · rw [List.getElem?_take_of_lt (by omega), Array.getElem?_toList, h4 i hi]
      simp [List.getD, hi]
    · rw [List.getElem?_eq_none (by simp; omega), List.getElem?_eq_none (by simp; omega)]
theorem RowI.at {w : World} {B D : Nat} {v : Value} {l : List Int} (h : RowI w B D v l) : IntsAt w v l := by
  rcases h with ⟨rfl, rfl⟩ | ⟨g, cap, cur, hv, hb, hd, hg, h1, h2, h3, h4⟩
  · exact ⟨none, 0, rfl, Nat.le_refl _, Nat.zero_le _, fun i hi => absurd hi (Nat.not_lt_zero _)⟩
  · exact ⟨_, cap, hv, h1, h2, fun i hi => ⟨g, 0, rfl, (Array.getElem?_eq_some_iff.1 hg).1, by rw [Nat.zero_add]; exact (cellB hg).trans (h4 i hi)⟩⟩
theorem RowI.kept {w w' : World} {B D : Nat} {v : Value} {l : List Int} (h : RowI w B D v l) (k : ∀ j, j < w.heap.size → B ≤ j → j < D → w'.heap[j]? = w.heap[j]?) : RowI w' B D v l := by
  rcases h with h | ⟨g, cap, cur, hv, hb, hd, hg, r⟩
  · exact .inl h
  · exact .inr ⟨g, cap, cur, hv, hb, hd, (k g (Array.getElem?_eq_some_iff.1 hg).1 hb hd).trans hg, r⟩
theorem RowI.below {w w' : World} {B D C : Nat} {v : Value} {l : List Int} (h : RowI w B D v l) (k : Below C w w') (hC : D ≤ C) : RowI w' B D v l :=
  h.kept (fun j _ _ h2 => k.block j (Nat.lt_of_lt_of_le h2 hC))
theorem RowI.base {w : World} {B B' D D' : Nat} {v : Value} {l : List Int} (h : RowI w B D v l) (hB : B' ≤ B) (hD : D ≤ D') : RowI w B' D' v l := by
  rcases h with h | ⟨g, cap, cur, hv, hb, hd, r⟩
  · exact .inl h
  · exact .inr ⟨g, cap, cur, hv, Nat.le_trans hB hb, Nat.lt_of_lt_of_le hd hD, r⟩
theorem RowI.form {w : World} {B D : Nat} {v : Value} {l : List Int} (h : RowI w B D v l) : ∃ a cap, v = .slice a l.length cap := by
  rcases h with ⟨rfl, rfl⟩ | ⟨g, cap, cur, hv, _⟩
  · exact ⟨none, 0, rfl⟩
  · exact ⟨_, _, hv⟩
theorem RowI.get {w : World} {B D : Nat} {v : Value} {l : List Int} (h : RowI w B D v l) {i : Nat} (hi : i < l.length) :
    ∃ g cap, v = .slice (some ⟨g, 0, none⟩) l.length cap ∧ B ≤ g ∧ g < D ∧ g < w.heap.size ∧ l.length ≤ cap ∧ cap ≤ maxLen ∧ w.cell? ⟨g, i, none⟩ = some (.int .i64 (l.getD i 0)) ∧ w.frozen? ⟨g, i, none⟩ = false := by
  rcases h with ⟨_, rfl⟩ | ⟨g, cap, cur, hv, hb, hd, hg, h1, h2, h3, h4⟩
  · cases hi
  · exact ⟨g, cap, hv, hb, hd, (Array.getElem?_eq_some_iff.1 hg).1, h1, h2, (cellB hg).trans (h4 i hi), freeB hg⟩
theorem RowI.set {w : World} {B D g cap n : Nat} {l : List Int} (h : RowI w B D (.slice (some ⟨g, 0, none⟩) n cap) l) {i : Nat} (hi : i < l.length) (x : Int) : RowI (w.setCell ⟨g, i, none⟩ (.int .i64 x)) B D (.slice (some ⟨g, 0, none⟩) n cap) (l.set i x) := by
  rcases h with ⟨hv, _⟩ | ⟨g', cap', cur, hv, hb, hd, hg, h1, h2, h3, h4⟩
  · simp at hv
  · simp only [Value.slice.injEq, Option.some.injEq, Addr.mk.injEq, and_true] at hv
    obtain ⟨rfl, rfl, rfl⟩ := hv
    refine .inr ⟨g, cap, cur.setIfInBounds i (.int .i64 x), by simp, hb, hd, setB hg _, by simpa using h1, h2, by simpa using h3, fun j hj => ?_⟩
    rw [List.length_set] at hj
    by_cases e : i = j
    · subst e
      simp [List.getD, hj, show i < cur.size by omega]
    · rw [Array.getElem?_setIfInBounds_ne e, h4 j hj]
      simp [List.getD, e]
/-- what lies ahead of B, or at D and behind it, is as it was -/
structure Out (B D : Nat) (w w' : World) : Prop where
  below : Below B w w'
  block : ∀ k, D ≤ k → k < w.heap.size → w'.heap[k]? = w.heap[k]?
theorem Out.refl (B D : Nat) (w : World) : Out B D w w := ⟨Below.refl _ _, fun _ _ _ => rfl⟩
theorem Out.set {B D : Nat} {a w : World} (h : Out B D a w) {p : Addr} (h1 : B ≤ p.block) (h2 : p.block < D) (v : Value) : Out B D a (w.setCell p v) :=
  ⟨h.below.setCell h1 v, fun k h3 h4 => (Below.heap_setCell _ _ _ _ (by omega)).trans (h.block k h3 h4)⟩
theorem Out.drewN {B D : Nat} {a w : World} (h : Out B D a w) (n : Nat) : Out B D a (w.drewN n) := ⟨⟨h.below.os, h.below.tape, h.below.output, h.below.size, h.below.block⟩, h.block⟩
theorem RowI.out {w w' : World} {B D B' D' : Nat} {v : Value} {l : List Int} (h : RowI w B D v l) (k : Out B' D' w w') (hd : D ≤ B' ∨ D' ≤ B) : RowI w' B D v l :=
  h.kept (fun j h0 h1 h2 => by rcases hd with hd | hd; exact k.below.block j (by omega); exact k.block j (by omega) h0)
end Go.Proofs.Ytfkkhfiiokhnaag
namespace Go.Proofs.Ytfkkhfiiokhnaag
open Go.RowKit

theorem abcOk : txtOkB ⟨#[97, 98, 32, 99]⟩ = true := by decide +kernel
theorem pwOk_any (w : World) : Calls Try.prog 21 #[] w fun e w' => e = .returned (.bool true) ∧ w' = w := by
  go_enter Try.func21, Try.ntmps21
  go_wp2_with fail
  refine (implTxtOk _ _ (by unfold maxLen; decide)).mono ?_
  rw [abcOk]
  rintro e w1 ⟨rfl, rfl⟩
  go_wp2
  go_ret
  exact ⟨rfl, rfl⟩
end Go.Proofs.Ytfkkhfiiokhnaag
