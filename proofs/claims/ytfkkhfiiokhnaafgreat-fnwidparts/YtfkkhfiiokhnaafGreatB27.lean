/-
  PROVED HERE: small facts on places of a grid, for the other texts of this claim. Also: what the program's reaches answers at every argument; nothing in memory is turned. Also: what the program's acrossAll and WidCell answer of any list of numbers in memory and any cell; nothing that was in memory is turned. Also: a region that draws its order, whose operations but the last one only read (their callees turn nothing that was in memory), and whose last operation waits for all others, may be walked once, in its text's order; the last operation may turn memory. Also: what the program's method rank answers of two claims, and what the library's insertion sort does with a row of claims, by that.
-/
import Derived.Test.YtfkkhfiiokhnaafGreatB7
import Derived.Test.YtfkkhfiiokhnaafGreatB6
import Derived.Test.YtfkkhfiiokhnaafGreatB26
import Derived.Test.YtfkkhfiiokhnaafGreatB8
import Derived.Test.YtfkkhfiiokhnaafGreatB14
import Derived.Test.YtfkkhfiiokhnaafGreatB24
import Derived.Laws.AppendOwn
import Derived.Shelf.SlGeneric
import Derived.Shelf.Lay
import Derived.Ground.SlsfProg
namespace Go.Proofs.YtfkkhfiiokhnaafGreat
open Go.RowKit

theorem ret_boolG {a b : Bool} (h : a = b) : Ending.returned (.bool a) = .returned (.bool b) := by rw [h]
def isIn (row ins : Int) (x : GC) : Bool := (x.row == row) && (x.ins == ins)
/-- whether a place is one of so many from a first one on -/
def amongB (x first many : Int) : Bool := decide (first ≤ x) && decide (0 < many) && decide (x - first < many)
def holdsB (row col : Int) (x : GC) : Bool := amongB row x.row x.rows && amongB col x.col x.cols

theorem lt_of_blockG {w : World} {g : Nat} {o : Obj} (h : w.heap[g]? = some o) : g < w.heap.size := (Array.getElem?_eq_some_iff.1 h).1

theorem wrap_sub {x f : Int} (hx : -9223372036854775808 ≤ x ∧ x ≤ 9223372036854775807) (hf : -9223372036854775808 ≤ f ∧ f ≤ 9223372036854775807) (h : f ≤ x) : IntKind.u64.wrap (IntKind.u64.wrap x - IntKind.u64.wrap f) = x - f := by
  simp [IntKind.wrap, IntKind.bits, IntKind.signed]
  omega

end Go.Proofs.YtfkkhfiiokhnaafGreat
namespace Go.Proofs.YtfkkhfiiokhnaafGreat
open Go.RowKit

theorem reaches_any (x f m : Int) (hx : I64 x) (hf : I64 f) (hm : I64 m) (w : World) :
    Calls Tryz.prog 66 #[.int .i64 f, .int .i64 m, .int .i64 x] w fun e w' => e = .returned (.bool (amongB x f m)) ∧ w' = w := by
  unfold I64 at hx hf hm
  by_cases h1 : f ≤ x
  · by_cases h2 : 0 < m
    · have e : amongB x f m = decide (x - f < m) := by simp [amongB]; omega
      rw [e]
      go_enter Tryz.func66, Tryz.ntmps66
      go_wp2
      go_ret
      exact ⟨ret_boolG (by rw [wrap_sub hx hf h1]), rfl⟩
    · have e : amongB x f m = false := by simp [amongB]; omega
      rw [e]
      go_enter Tryz.func66, Tryz.ntmps66
      go_wp2
      go_ret
      exact ⟨rfl, rfl⟩
  · have e : amongB x f m = false := by simp [amongB]; omega
    rw [e]
    go_enter Tryz.func66, Tryz.ntmps66
    go_wp2
    go_ret
    exact ⟨rfl, rfl⟩
end Go.Proofs.YtfkkhfiiokhnaafGreat
namespace Go.Proofs.YtfkkhfiiokhnaafGreat
open Go.RowKit

/-- whether a column is of a cell -/
def inCell (x : GC) (k : Nat) : Bool := amongB (k : Int) x.col x.cols
def cellV (l : List Int) (gap : Int) (x : GC) : Int := acrV (ownL l (inCell x) l.length) gap

theorem infoIc : (Tryz.prog.info? 3).map (fun i => (i.zero, i.size, i.bytes)) = some (some (Value.int .i64 0), 1, 8) := by kernel_rfl
/-- what an append of one number leaves -/
theorem app_keeps {w w3 w4 : World} {B n : Nat} {xs : List Value} {x : Int} {o : Value} (hB : w.heap.size ≤ B) (hO : w3.ownsRow B 3 1 o n xs) (K : Below w.heap.size w w3)
    (hg : (w3.alloc (.cells #[.int .i64 x] 3)).grownBy w4 o.ownBlock) : Below w.heap.size w w4 ∧ ∀ g, g < B → g < w3.heap.size → w4.heap[g]? = w3.heap[g]? := by
  have hA := k_alloc K (.cells #[.int .i64 x] 3)
  refine ⟨⟨hg.os.trans hA.os, hg.tape.trans hA.tape, hg.output.trans hA.output, Nat.le_trans hA.size hg.size, fun k hk => (hg.block k (Nat.lt_of_lt_of_le hk hA.size) (fun hb => ?_)).trans (hA.block k hk)⟩, fun k hk hl => (hg.block k (by simp; omega) (fun hb => ?_)).trans (Below.heap_alloc _ _ _ hl)⟩
  · have := (hO.lt k hb.symm).1
    omega
  · have := (hO.lt k hb.symm).1
    omega
theorem ownL_yes {l : List Int} {p : Nat → Bool} {k : Nat} (h : p k = true) : ownL l p (k + 1) = ownL l p k ++ [l.getD k 0] := by rw [ownL, if_pos h]
theorem ownL_no {l : List Int} {p : Nat → Bool} {k : Nat} (h : p k = false) : ownL l p (k + 1) = ownL l p k := by rw [ownL, if_neg (by rw [h]; simp)]

set_option maxRecDepth 100000 in
set_option maxHeartbeats 1000000 in
theorem implWidCell (v : Value) (l : List Int) (hl : l.length ≤ 1048576) (gap : Int) (x : GC) (hx : GOk x) (w : World) (h : IntsAt w v l) :
    Calls Tryz.prog 32 #[v, .int .i64 gap, .agg #[.int .i64 x.row, .int .i64 x.col, .int .i64 x.rows, .int .i64 x.cols, .int .i64 x.ins]] w fun e w' => e = .returned (.int .i64 (cellV l gap x)) ∧ Below w.heap.size w w' := by
  obtain ⟨i0, hi, hz0, hz1, hz2⟩ := info_parts infoIc
  obtain ⟨a, cap, rfl, hlen⟩ := h.form
  obtain ⟨_, b1, _, b3, _⟩ := hx
  have K0 := k_alloc (Below.refl w.heap.size w) (.cells #[.int .i64 x.row, .int .i64 x.col, .int .i64 x.rows, .int .i64 x.cols, .int .i64 x.ins] 50)
  have X0 := newestB w (.cells #[.int .i64 x.row, .int .i64 x.col, .int .i64 x.rows, .int .i64 x.cols, .int .i64 x.ins] 50)
  have H := Hid.intro h
  have HR := Hid.intro (fun (k : Nat) (hk : k ≤ 1048576) => reaches_any (k : Int) x.col x.cols (by unfold I64; omega) b1 b3)
  clear h b1 b3
  go_enter Tryz.func32, Tryz.ntmps32
  go_wp2_with fail
  go_loopw [7, 12] (fun o i W => ∃ k : Nat, i = .int .i64 k ∧ k ≤ l.length ∧ Hid (W.ownsRow (w.heap.size + 1) 3 1 o (ownL l (inCell x) k).length ((ownL l (inCell x) k).map (Value.int .i64))) ∧ Hid (Below w.heap.size w W) ∧ Hid (W.heap[w.heap.size]? = some (.cells #[.int .i64 x.row, .int .i64 x.col, .int .i64 x.rows, .int .i64 x.cols, .int .i64 x.ins] 50))) (fun _ i _ => l.length - (intOf i).toNat)
  case atStart => exact ⟨0, rfl, Nat.zero_le _, ⟨by simp [ownL], .inl ⟨rfl, rfl⟩⟩, K0, X0⟩
  case round =>
    obtain ⟨k, rfl, hk, HO, HB, HX⟩ := hrel
    have c1 : wr.cell? ⟨w.heap.size, 1, none⟩ = some (.int .i64 x.col) := cellB HX.out
    have c3 : wr.cell? ⟨w.heap.size, 3, none⟩ = some (.int .i64 x.cols) := cellB HX.out
    by_cases hlt : k < l.length
    · obtain ⟨b, off, cap', e', hc1, hc2, hbl, hy⟩ := (H.out.kept HB.out).get hlt
      simp only [Value.slice.injEq, true_and] at e'
      obtain ⟨rfl, rfl⟩ := e'
      unfold maxLen at hc2
      have KR := Hid.intro (HR.out k (by omega) wr)
      have hol := ownL_len l (inCell x) k
      cases hin : inCell x k with
      | false =>
        have HL := Hid.intro (ownL_no (l := l) hin)
        have hin' : amongB (k : Int) x.col x.cols = false := hin
        rw [hin'] at KR
        clear hin hin'
        generalize l.getD k 0 = y at hy
        go_wp2_with fail
        refine KR.out.mono ?_
        rintro e w1 ⟨rfl, rfl⟩
        go_wp2
        go_roundw
        case rel => exact ⟨k + 1, by go_num, by omega, by rw [HL.out]; exact HO, HB, HX⟩
        case measure => simp [intOf]; omega
      | true =>
        have HL := Hid.intro (ownL_yes (l := l) hin)
        have hin' : amongB (k : Int) x.col x.cols = true := hin
        rw [hin'] at KR
        clear hin hin'
        generalize l.getD k 0 = y at hy HL
        generalize ownL l (inCell x) k = xs at HO HL hol
        go_wp2_with fail
        refine KR.out.mono ?_
        rintro e w1 ⟨rfl, rfl⟩
        have hO4 := HO.out
        have hsz : w.heap.size < w1.heap.size := (Array.getElem?_eq_some_iff.1 HX.out).1
        go_wp2_with (at_builtin; refine wpList_append_own _ rfl _ _ 29 rfl (w.heap.size + 1) 3 i0 (.int .i64 0) 1 8 Tryz.underlying29 hi hz0 hz1 hz2 rfl (by decide) _ _ _ rfl (hO4.alloc _) ⟨w1.heap.size, 0, none⟩ 1 1 [.int .i64 y] rfl rfl ?c1 ?c2 ?c3 ?c4 ?c5 ?_)
        case c1 =>
          intro i u hi
          match i, hi with
          | 0, hi => simp at hi; subst hi; simp [Addr.add]
        case c2 => intro u hu; simp at hu; subst hu; rfl
        case c3 => unfold maxLen; omega
        case c4 => omega
        case c5 => simp; omega
        intro v' w5 hown' hgrow' _
        obtain ⟨hB5, hX5⟩ := app_keeps (Nat.le_succ _) hO4 HB.out hgrow'
        have HB5 := Hid.intro hB5
        have HX5 := Hid.intro ((hX5 w.heap.size (Nat.lt_succ_self _) (Array.getElem?_eq_some_iff.1 HX.out).1).trans HX.out)
        have HO5 : Hid (w5.ownsRow (w.heap.size + 1) 3 1 v' (xs ++ [y]).length ((xs ++ [y]).map (Value.int .i64))) := by rw [List.length_append, List.map_append]; exact hown'
        obtain ⟨g', cap'', rfl⟩ := Joins.ownsRow_form hown' (by omega)
        clear hown' hgrow' hO4 hB5 hX5 HO HB HX
        go_wp2
        go_roundw
        case rel => exact ⟨k + 1, by go_num, by omega, by rw [HL.out]; exact HO5, HB5, HX5⟩
        case measure => simp [intOf]; omega
    · obtain rfl : k = l.length := by omega
      have hI := (RowI.of_owns HO.out).at
      obtain ⟨aa, cc, rfl, _⟩ := hI.form
      have KA := Hid.intro (implacrossAll _ _ gap wr hI)
      have HV : Hid (cellV l gap x = acrV (ownL l (inCell x) l.length) gap) := rfl
      clear hI
      go_wp2_with fail
      refine KA.out.mono ?_
      rintro e w1 ⟨rfl, rfl⟩
      go_wp2
      go_ret
      exact ⟨rfl, HB.out⟩
end Go.Proofs.YtfkkhfiiokhnaafGreat
namespace Go.Proofs.YtfkkhfiiokhnaafGreat
open Go.RowKit

section
variable {P : Program} {ops : Array Oper} {C : World → Prop}
/-- each operation ahead of z is waited for by a later one, up to z -/
def succB (ops : Array Oper) (z : Nat) : Bool := (List.range z).all fun i => (List.range (z + 1)).any fun j => decide (i < j) && edgeB ops j i
theorem all_ahead {z : Nat} {L : Nat → Bool} (hs : succB ops z = true) (hc : Closed ops L) {o : Oper} (ho : ops[z]? = some o) (ha : ∀ e ∈ o.after, Region.binds .any e = true → L e.on = true) : ∀ n i, z - i ≤ n → i < z → L i = true
  | 0, i, h, hi => by omega
  | n + 1, i, h, hi => by
    have h1 := List.all_eq_true.1 hs i (List.mem_range.2 hi)
    obtain ⟨j, hj, h2⟩ := List.any_eq_true.1 h1
    have hjz := List.mem_range.1 hj
    rw [Bool.and_eq_true] at h2
    obtain ⟨h3, h4⟩ := h2
    have h3 := of_decide_eq_true h3
    by_cases e : j = z
    · subst e
      unfold edgeB at h4
      rw [ho] at h4
      simp only [Option.map_some, Option.getD_some, List.any_eq_true, Bool.and_eq_true, beq_iff_eq] at h4
      obtain ⟨e, he1, he2, he3⟩ := h4
      have := ha e (by simpa using he1) he2
      rwa [he3] at this
    · have hLj := all_ahead hs hc ho ha n j (by omega) (by omega)
      cases hLi : L i with
      | true => rfl
      | false => rw [hc j i h4 hLi] at hLj; cases hLj
theorem closed_set {listed : Array Bool} {j : Nat} (h : Closed ops (fun k => listed.getD k false)) (hj : j ∈ Region.ready .any ops listed) : Closed ops (fun k => (listed.setIfInBounds j true).getD k false) := by
  obtain ⟨h0, o, ho, ha⟩ := mem_ready.1 hj
  have hlt : j < listed.size := by
    rcases Nat.lt_or_ge j listed.size with h' | h'
    · exact h'
    · rw [Array.getD_eq_getD_getElem?, Array.getElem?_eq_none h'] at h0
      cases h0
  rw [listed_set hlt]
  exact h.next ho ha
def wpAnyM (P : Program) (ops : Array Oper) (C : World → Prop) (z : Nat) (R : Act → Prop) : Nat → Array Bool → Act → Prop
  | 0, _, _ => False
  | fuel + 1, listed, a => Region.ready .any ops listed ≠ [] ∧ ∀ i ∈ Region.ready .any ops listed, if i = z then (fuel = 0 ∧ Region.ready .any ops (listed.setIfInBounds z true) = [] ∧ R a) else qOp P ops C i (wpAnyM P ops C z R fuel (listed.setIfInBounds i true)) a
theorem wpAny_of_M {Q : Exit → Act → World → Prop} {R : Act → Prop} {z : Nat} (hR : ∀ a w, C w → R a → wpOp P ops Q z (fun a' w' => Q .normal a' w') a w) : ∀ (fuel : Nat) (listed : Array Bool) (a : Act) (w : World), C w → wpAnyM P ops C z R fuel listed a → wpAny P .any ops Q fuel listed a w
  | 0, _, _, _, _, h => h.elim
  | fuel + 1, listed, a, w, hw, h => ⟨fun h0 => absurd h0 h.1, fun i hi => by
      have h2 := h.2 i hi
      by_cases hz : i = z
      · rw [if_pos hz] at h2
        obtain ⟨h3, hr, hRa⟩ := h2
        subst h3
        subst hz
        exact wpOp_mono (fun a' w' h' => ⟨hr, h'⟩) (hR a w hw hRa)
      · rw [if_neg hz] at h2
        exact wpOp_of_qOp hw (fun a' w' hw' => wpAny_of_M hR fuel _ a' w' hw') h2⟩
theorem wpAnyM_first {R : Act → Prop} {z i : Nat} {oi : Oper} {v : Value} (hs : succB ops z = true) (hi : ops[i]? = some oi) (hiz : i < z) (hsel : ∀ (j : Nat) (o : Oper) cs b, ops[j]? = some o → o.op ≠ .select cs b) :
    ∀ (fuel : Nat) (listed : Array Bool) (a : Act), Closed ops (fun k => listed.getD k false) →
      (∀ j oj, ops[j]? = some oj → j ≠ i → listed.getD j true = false → (∀ e ∈ oj.after, Region.binds .any e = true → e.on ≠ i) → oi.apart ops oj = true) →
      i ∈ Region.ready .any ops listed → YieldsIn P ops C oi v a →
      wpAnyM P ops C z R fuel (listed.setIfInBounds i true) (a.put oi.dst v) → wpAnyM P ops C z R (fuel + 1) listed a := by
  intro fuel
  induction fuel with
  | zero => intro listed a _ _ _ _ H; exact H.elim
  | succ fuel ih =>
    intro listed a hcl hfree hr hy H
    refine ⟨fun h => (by rw [h] at hr; cases hr), fun j hj => ?_⟩
    by_cases hji : j = i
    · rw [if_neg (by omega)]; subst hji; exact hy.qOp hi H
    · have hjz : j ≠ z := fun e => by
        subst e
        obtain ⟨_, o, ho, ha⟩ := mem_ready.1 hj
        have h1 := all_ahead hs hcl ho ha _ i (Nat.le_refl _) hiz
        have h0 := (mem_ready.1 hr).1
        rcases Nat.lt_or_ge i listed.size with h' | h'
        · simp [h'] at h0 h1; rw [h0] at h1; cases h1
        · simp [Array.getElem?_eq_none h'] at h1
      rw [if_neg hjz]
      have h1 := H.2 j (ready_mono hj hji)
      rw [if_neg hjz] at h1
      obtain ⟨hjun, oj, hoj, hall⟩ := mem_ready.1 hj
      have hnot : ∀ e ∈ oj.after, Region.binds .any e = true → e.on ≠ i := fun e he hb heq => by
        have h1 := hall e he hb
        have h0 := (mem_ready.1 hr).1
        rw [heq] at h1
        rcases Nat.lt_or_ge i listed.size with h' | h'
        · simp [h'] at h0 h1; rw [h0] at h1; cases h1
        · simp [Array.getElem?_eq_none h'] at h1
      have h2 := qOp_put hoj (hfree j oj hoj hji hjun hnot) (fun cs b => hsel i oi cs b hi) (fun cs b => hsel j oj cs b hoj) hy h1
      have hfree' : ∀ k ok, ops[k]? = some ok → k ≠ i → (listed.setIfInBounds j true).getD k true = false →
          (∀ e ∈ ok.after, Region.binds .any e = true → e.on ≠ i) → oi.apart ops ok = true := fun k ok hk hki hun hno => by
        refine hfree k ok hk hki ?_ hno
        by_cases hjk : j = k
        · subst hjk; exact hjun
        · rw [getD_set_ne true hjk] at hun; exact hun
      refine qOp_mono (fun a' h3 => ih (listed.setIfInBounds j true) a' (closed_set hcl hj) hfree' (ready_mono hr (Ne.symm hji)) h3.1 ?_) h2
      rw [Array.setIfInBounds_comm _ _ hji]
      exact h3.2
theorem wpAnyM_lex {R : Act → Prop} {z : Nat} (hns : Region.noSelect ops = true) (hs : succB ops z = true) : ∀ (l : List Oper) (k : Nat) (listed : Array Bool) (a : Act), k + l.length = z → (∀ j, j < l.length → l[j]? = ops[k + j]?) → Closed ops (fun k => listed.getD k false) →
    Region.lexFrom .any ops (l.length + 1) k listed = true → wpQuiet P ops C R l a → wpAnyM P ops C z R (l.length + 1) listed a
  | [], k, listed, a, hk, _, _, hB, h => by
    simp only [List.length_nil, Region.lexFrom, Bool.and_eq_true] at hB
    obtain ⟨⟨hr, _⟩, he⟩ := hB
    have hk' : k = z := by simpa using hk
    subst hk'
    have hr' : k ∈ Region.ready .any ops listed := by simpa using hr
    have he' : Region.ready .any ops (listed.setIfInBounds k true) = [] := by simpa using he
    refine ⟨fun h => (by rw [h] at hr'; cases hr'), fun i hi => ?_⟩
    by_cases hik : i = k
    · rw [if_pos hik]; exact ⟨rfl, he', h⟩
    · have := ready_mono hi hik
      rw [he'] at this
      cases this
  | o :: l, k, listed, a, hk, hl, hcl, hB, h => by
    have h0 : ops[k]? = some o := by simpa using (hl 0 (by simp)).symm
    simp only [List.length_cons] at hk hB ⊢
    rw [Region.lexFrom] at hB
    simp only [Bool.and_eq_true] at hB
    obtain ⟨⟨hr, hf⟩, hB'⟩ := hB
    have hr' : k ∈ Region.ready .any ops listed := by simpa using hr
    have hst : qOp P ops C k (wpQuiet P ops C R l) a := by unfold qOp; simp only [h0]; exact h
    obtain ⟨v, hy, hK⟩ := yieldsIn_of_qOp h0 hst
    exact wpAnyM_first hs h0 (by omega) (Region.noSelect_spec hns) (l.length + 1) listed a hcl (Region.free_spec h0 hf) hr' hy
      (wpAnyM_lex hns hs l (k + 1) _ _ (by omega) (fun j hj => by have := hl (j + 1) (by simpa using hj); simpa [Nat.add_assoc, Nat.add_comm 1 j] using this) (closed_set hcl hr') hB' hK)
end
/-- the walk: what only reads in the text's order, then the last operation -/
theorem wp_region_last {P : Program} {id : Nat} {Q : Exit → Act → World → Prop} {a : Act} {w : World} {l : List Oper} (n : Nat) {o : Oper} (hm : P.follows .mixedOrders = true) (hl : l.length = n + 1) (ho : l[n]? = some o) (hB : Region.lexB .any l.toArray = true) (hs : succB l.toArray n = true)
    (h : wpQuiet P l.toArray (fun w' => ∃ p : BW w, w' = p.u) (fun a' => ∀ w', (∃ p : BW w, w' = p.u) → if Region.wanted o (yielded l.toArray a'.tmps) = true then o.wp P a' w' (fun a w => Q .normal a w) Q else Q .normal (a'.put o.dst undef) w') (l.take n) a) : (Code.region id l.toArray true).wp P Q a w := by
  simp only [Region.lexB, Bool.and_eq_true] at hB
  have hlt : (l.take n).length = n := by rw [List.length_take]; omega
  refine wp_region_any hm (wpAny_of_M (C := fun w' => ∃ p : BW w, w' = p.u) (z := n) (R := fun a' => ∀ w', (∃ p : BW w, w' = p.u) → if Region.wanted o (yielded l.toArray a'.tmps) = true then o.wp P a' w' (fun a w => Q .normal a w) Q else Q .normal (a'.put o.dst undef) w') ?_ _ _ _ _ ⟨⟨_, k_drew (Below.refl _ _)⟩, rfl⟩ ?_)
  · intro a' w' hw' hR
    have h1 := hR w' hw'
    unfold wpOp
    rw [show l.toArray[n]? = some o by simpa using ho]
    dsimp only
    split
    · rename_i hw; rw [if_pos hw] at h1; exact .inl h1
    · rename_i hw; rw [if_neg hw] at h1; exact h1
  · have := wpAnyM_lex (P := P) (C := fun w' => ∃ p : BW w, w' = p.u) hB.1 hs (l.take n) 0 (Array.replicate l.toArray.size false) a (by omega) (fun j hj => by rw [hlt] at hj; simp [hj]) (fun j i _ _ => by
      show (Array.replicate l.toArray.size false).getD j false = false
      rw [Array.getD_eq_getD_getElem?, Array.getElem?_replicate]
      split <;> rfl) (by rw [hlt, ← hl]; simpa using hB.2) h
    rw [hlt, ← hl] at this
    simpa using this
end Go.Proofs.YtfkkhfiiokhnaafGreat
namespace Go.Proofs.YtfkkhfiiokhnaafGreat
open Go.RowKit Go.Shelf Go.Lib Go.Sort

set_option maxHeartbeats 1000000 in
theorem compare_any (a b : Int) (w : World) : Calls Tryz.prog 131 #[.int .i64 a, .int .i64 b] w fun e w' => e = .returned (.int .i64 (if a < b then -1 else if b < a then 1 else 0)) ∧ w' = w := by
  have hn : ∀ (x : Int) (W : World), Calls Tryz.prog 140 #[.int .i64 x] W fun e w' => e = .returned (.bool false) ∧ w' = W := fun x W => by
    have hx : (x != x) = false := by simp
    go_enter Tryz.func140, Tryz.ntmps140
    go_wp2
    go_ret
    exact ⟨rfl, rfl⟩
  by_cases h1 : a < b
  · rw [if_pos h1]
    go_enter Tryz.func131, Tryz.ntmps131
    go_wp2_with (go_at_call 140; refine (hn _ _).mono ?_; rintro e w' ⟨rfl, rfl⟩)
    go_ret
    exact ⟨rfl, rfl⟩
  · rw [if_neg h1]
    by_cases h2 : b < a
    · rw [if_pos h2]
      go_enter Tryz.func131, Tryz.ntmps131
      go_wp2_with (go_at_call 140; refine (hn _ _).mono ?_; rintro e w' ⟨rfl, rfl⟩)
      go_ret
      exact ⟨rfl, rfl⟩
    · rw [if_neg h2]
      go_enter Tryz.func131, Tryz.ntmps131
      go_wp2_with (go_at_call 140; refine (hn _ _).mono ?_; rintro e w' ⟨rfl, rfl⟩)
      go_ret
      exact ⟨rfl, rfl⟩

set_option maxHeartbeats 1000000 in
theorem rank_any (x y : Cl) (W : World) : Calls Tryz.prog 109 #[.agg #[.int .i64 x.p, .int .i64 x.w, .int .i64 x.o], .agg #[.int .i64 y.p, .int .i64 y.w, .int .i64 y.o]] W fun e w' => e = .returned (.int .i64 (cfC x y)) ∧ ∃ q os', w' = grow (W.drewN q) os' := by
  have hcon := fun W' => compare_any y.o x.o W'
  have he : cfC x y = (if y.o < x.o then -1 else if x.o < y.o then 1 else 0) := rfl
  rw [he]
  generalize (if y.o < x.o then (-1 : Int) else if x.o < y.o then 1 else 0) = r at hcon
  go_enter Tryz.func109, Tryz.ntmps109
  go_wp2_with (go_at_call 131; refine (hcon _).mono ?_; rintro e w' ⟨rfl, rfl⟩)
  go_ret
  exact ⟨rfl, 0, _, by rw [alloc_eq_grow, alloc_eq_grow, grow_grow]; rfl⟩
theorem cmpC (blk off size : Nat) (w : World) : CmpLays Tryz.prog 109 #[] encC 3 cfC blk off size w := fun _ _ _ _ x y => rank_any x y _
theorem egC : ∀ args w, (callFunc 109 args).run Tryz.prog w = .ok (.enter 109 args) w := enters_of Tryz.func109 (by kernel_rfl) rfl

theorem size_insInner (lt : Cl → Cl → Bool) (a : Nat) : ∀ (j : Nat) (d : Array Cl), (insInner lt a j d).size = d.size
  | 0, d => by unfold insInner; rfl
  | j + 1, d => by
    unfold insInner
    split
    · rw [size_insInner lt a j, size_swp]
    · rfl
theorem size_insOuter (lt : Cl → Cl → Bool) (a b : Nat) : ∀ (n i : Nat) (d : Array Cl), b - i = n → (insOuter lt a b i d).size = d.size
  | 0, i, d, hn => by rw [insOuter_stop _ _ _ _ _ (by omega)]
  | n + 1, i, d, hn => by rw [insOuter_go _ _ _ _ _ (by omega), size_insOuter lt a b n (i + 1) _ (by omega), size_insInner]
theorem size_ins (d : Array Cl) (a b : Nat) : (Sort.insertionSort (ltOf cfC) d a b).size = d.size := size_insOuter _ _ _ _ _ _ rfl
shelf_lay_g SlLaysF0.n20 Slsf 20 at Tryz 138 as insC

/-- what the library's insertion sort does with a part of a row of claims, from a world of the sort's to one -/
theorem ins_any (blk off cap a b : Nat) (d0 d : Array Cl) (w0 w : World) (R : RowK encC 3 w0 blk off d0) (hs : d0.size = d.size) (S : SWK encC 3 w0 blk off d w) (hab : a ≤ b) (hb : b ≤ d.size) (hsz : d.size < 4611686018427387904) :
    Calls Tryz.prog 138 #[.slice (some ⟨blk, off, none⟩) d.size cap, .int .i64 a, .int .i64 b, .func (.func 109) #[] #[]] w fun e w' =>
      e = .returned (.tuple #[]) ∧ SWK encC 3 w0 blk off (Sort.insertionSort (ltOf cfC) d a b) w' := by
  have hbl : blk < w.heap.size := Nat.lt_of_lt_of_le R.hblk S.le
  refine (AnyQ.insertionSortCmpFunc insC 3 Tryz.isAgg138 Tryz.sizeOf138 encC encC_len encC_one cfC 109 #[] blk off cap a b d w egC (cmpC blk off d.size w) (S.holds R.hblk R.hH (by omega)) hbl hab hb hsz).mono ?_
  rintro e w' ⟨rfl, n, os, rfl⟩
  exact ⟨rfl, S.on R.hblk n _ os (size_ins d a b)⟩
end Go.Proofs.YtfkkhfiiokhnaafGreat
