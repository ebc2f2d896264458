/-
  PROVED HERE: what the model's l4Share answers at every argument that may be, of no weights too. Also: a region that draws its order, whose operations but the last one only read (their callees turn nothing that was in memory), and whose last operation waits for all others, may be walked once, in its text's order; the last operation may turn memory. Also: what the program's method rank answers of two claims, and what the library's insertion sort does with a row of claims, by that.
-/
import Derived.Test.YtfkkhfiiokhnaaeGreatB28
import Derived.Test.YtfkkhfiiokhnaaeGreatB27
import Derived.Test.YtfkkhfiiokhnaaeGreatB8
import Derived.Test.YtfkkhfiiokhnaaeGreatB14
import Derived.Test.YtfkkhfiiokhnaaeGreatB24
import Derived.Shelf.SlGeneric
import Derived.Shelf.Lay
import Derived.Ground.SlsfProg
namespace Go.Proofs.YtfkkhfiiokhnaaeGreat
open Go.RowKit

theorem row_lit (w : World) (B : Nat) (hB : B ≤ w.heap.size) : RowI (w.alloc (.cells #[] 3)) B (w.alloc (.cells #[] 3)).heap.size (.slice (some ⟨w.heap.size, 0, none⟩) 0 0) [] :=
  .inr ⟨w.heap.size, 0, #[], rfl, hB, by simp, newestB _ _, Nat.le_refl _, Nat.zero_le _, rfl, fun i hi => absurd hi (Nat.not_lt_zero _)⟩

set_option maxRecDepth 100000 in
set_option maxHeartbeats 4000000 in
theorem l4Share_nil (t : Int) (ht : 0 ≤ t ∧ t ≤ 100000) (a : Option Addr) (cap : Nat) (w : World) :
    Calls Tryz.prog 87 #[.int .i64 t, .slice a 0 cap] w fun e w' => ∃ x, e = .returned x ∧ RowI w' w.heap.size w'.heap.size x [] ∧ Below w.heap.size w w' := by
  have hmk : ∀ u : World, (Instr.makeSlice 144 (.int .i64 0) (.int .i64 0)).run Tryz.prog u = .ok (.slice (some ⟨u.heap.size, 0, none⟩) 0 0) (u.alloc (.cells (newBo 0) 4)) := fun u => makeBo 0 (by omega) u
  have CS := Hid.intro (fun (v : Value) (W : World) (h : IntsAt W v []) => specl1Sum_any v [] (by simp) rfl W h)
  have emp : ∀ (W : World) (aa : Option Addr), IntsAt W (.slice aa 0 0) [] := fun W aa => ⟨aa, 0, rfl, Nat.le_refl _, Nat.zero_le _, fun i hi => absurd hi (Nat.not_lt_zero _)⟩
  have EM := Hid.intro emp
  clear emp
  cases a with
  | none =>
    go_enter Tryz.func87, Tryz.ntmps87
    go_wp2_with (go_at_call 33; refine (CS.out _ _ (EM.out _ _)).mono ?_; rintro e wx ⟨rfl, ex⟩; cases ex)
    go_loopw [6] (fun s6 W => s6 = .int .i64 0 ∧ Hid (Below w.heap.size w W)) (fun _ _ => 0)
    case atStart => exact ⟨rfl, k_alloc (Below.refl _ _) _⟩
    case round =>
      obtain ⟨rfl, HB⟩ := hrel
      have hwr := HB.out.size
      go_wp2_with (go_at_call 33; refine (CS.out _ _ (EM.out _ _)).mono ?_; rintro e wx ⟨rfl, ex⟩; cases ex)
      have R0 := Hid.intro (((row_lit wr w.heap.size hwr).below (k_alloc (k_alloc (Below.refl _ _) (.cells #[] 3)) (.cells (newBo 0) 4)) (Nat.le_refl _)).base (Nat.le_refl _) (Nat.le_trans (by simp) (Nat.le_refl ((((wr.alloc (.cells #[] 3)).alloc (.cells #[] 3)).alloc (.cells (newBo 0) 4)).heap.size))))
      have B0 := Hid.intro (k_alloc (k_alloc (k_alloc HB.out (.cells #[] 3)) (.cells #[] 3)) (.cells (newBo 0) 4))
      go_loopw [8, 9, 11] (fun s8 s9 s11 W => (∃ a8, s8 = .slice a8 0 0) ∧ (∃ a9, s9 = .slice a9 0 0) ∧ s11 = .int .i64 0 ∧ Hid (RowI W w.heap.size W.heap.size s8 []) ∧ Hid (Below w.heap.size w W)) (fun _ _ _ _ => 0)
      case atStart => exact ⟨⟨_, rfl⟩, ⟨_, rfl⟩, rfl, R0, B0⟩
      case round =>
        clear R0 B0
        obtain ⟨⟨a8, rfl⟩, ⟨a9, rfl⟩, rfl, HR, HB2⟩ := hrel
        go_wp2_with (go_at_call 33; refine (CS.out _ _ (EM.out _ _)).mono ?_; rintro e wx ⟨rfl, ex⟩; cases ex)
        go_loopw [12] (fun s12 W => s12 = .int .i64 t ∧ Hid (RowI W w.heap.size W.heap.size (.slice a8 0 0) []) ∧ Hid (Below w.heap.size w W)) (fun _ _ => 0)
        case atStart => exact ⟨by simp, HR, HB2⟩
        case round =>
          clear HR HB2
          obtain ⟨rfl, HR, HB2⟩ := hrel
          by_cases h0 : 0 < t
          · go_wp2
            go_ret
            exact ⟨_, rfl, HR.out, HB2.out⟩
          · go_wp2
            go_ret
            exact ⟨_, rfl, HR.out, HB2.out⟩
  | some p =>
    go_enter Tryz.func87, Tryz.ntmps87
    go_wp2_with (go_at_call 33; refine (CS.out _ _ (EM.out _ _)).mono ?_; rintro e wx ⟨rfl, ex⟩; cases ex)
    go_loopw [6] (fun s6 W => s6 = .int .i64 0 ∧ Hid (Below w.heap.size w W)) (fun _ _ => 0)
    case atStart => exact ⟨rfl, k_alloc (Below.refl _ _) _⟩
    case round =>
      obtain ⟨rfl, HB⟩ := hrel
      have hwr := HB.out.size
      go_wp2_with (go_at_call 33; refine (CS.out _ _ (EM.out _ _)).mono ?_; rintro e wx ⟨rfl, ex⟩; cases ex)
      have R0 := Hid.intro (((row_lit wr w.heap.size hwr).below (k_alloc (k_alloc (Below.refl _ _) (.cells #[] 3)) (.cells (newBo 0) 4)) (Nat.le_refl _)).base (Nat.le_refl _) (Nat.le_trans (by simp) (Nat.le_refl ((((wr.alloc (.cells #[] 3)).alloc (.cells #[] 3)).alloc (.cells (newBo 0) 4)).heap.size))))
      have B0 := Hid.intro (k_alloc (k_alloc (k_alloc HB.out (.cells #[] 3)) (.cells #[] 3)) (.cells (newBo 0) 4))
      go_loopw [8, 9, 11] (fun s8 s9 s11 W => (∃ a8, s8 = .slice a8 0 0) ∧ (∃ a9, s9 = .slice a9 0 0) ∧ s11 = .int .i64 0 ∧ Hid (RowI W w.heap.size W.heap.size s8 []) ∧ Hid (Below w.heap.size w W)) (fun _ _ _ _ => 0)
      case atStart => exact ⟨⟨_, rfl⟩, ⟨_, rfl⟩, rfl, R0, B0⟩
      case round =>
        clear R0 B0
        obtain ⟨⟨a8, rfl⟩, ⟨a9, rfl⟩, rfl, HR, HB2⟩ := hrel
        go_wp2_with (go_at_call 33; refine (CS.out _ _ (EM.out _ _)).mono ?_; rintro e wx ⟨rfl, ex⟩; cases ex)
        go_loopw [12] (fun s12 W => s12 = .int .i64 t ∧ Hid (RowI W w.heap.size W.heap.size (.slice a8 0 0) []) ∧ Hid (Below w.heap.size w W)) (fun _ _ => 0)
        case atStart => exact ⟨by simp, HR, HB2⟩
        case round =>
          clear HR HB2
          obtain ⟨rfl, HR, HB2⟩ := hrel
          by_cases h0 : 0 < t
          · go_wp2
            go_ret
            exact ⟨_, rfl, HR.out, HB2.out⟩
          · go_wp2
            go_ret
            exact ⟨_, rfl, HR.out, HB2.out⟩

set_option maxRecDepth 100000 in
set_option maxHeartbeats 2000000 in
theorem specl4Share (t : Int) (v : Value) (l : List Int) (hok : shrOkB t l = true) (w : World) (h : IntsAt w v l) :
    Calls Tryz.prog 87 #[.int .i64 t, v] w fun e w' => ∃ x, e = .returned x ∧ RowI w' w.heap.size w'.heap.size x (shareL t l) ∧ Below w.heap.size w w' := by
  by_cases h0 : 0 < l.length
  · exact l4Share_any t v l hok h0 w h
  · obtain rfl : l = [] := List.eq_nil_of_length_eq_zero (by omega)
    obtain ⟨a, cap, rfl, _⟩ := h.form
    rw [shareL_none (by simp)]
    exact l4Share_nil t (shrOk_parts hok).1 a cap w
end Go.Proofs.YtfkkhfiiokhnaaeGreat
namespace Go.Proofs.YtfkkhfiiokhnaaeGreat
open Go.RowKit

section
variable {P : Program} {ops : Array Oper} {C : World → Prop}
/-- each operation ahead of z is waited for by a later one, up to z -/
def succB (ops : Array Oper) (z : Nat) : Bool := (List.range z).all fun i => (List.range (z + 1)).any fun j => decide (i < j) && edgeB ops j i
theorem all_ahead {z : Nat} {L : Nat → Bool} (hs : succB ops z = true) (hc : Closed ops L) {o : Oper} (ho : ops[z]? = some o) (ha : ∀ e ∈ o.after, Region.binds .any e = true → L e.on = true) : ∀ n i, z - i ≤ n → i < z → L i = true
  | 0, i, h, hi => by omega
  | n + 1, i, h, hi => by
    have h1 := List.all_eq_true.1 hs i (List.mem_range.2 hi)
    obtain ⟨j, hj, h2⟩ := List.any_eq_true.1 h1
    have hjz := List.mem_range.1 hj
    rw [Bool.and_eq_true] at h2
    obtain ⟨h3, h4⟩ := h2
    have h3 := of_decide_eq_true h3
    by_cases e : j = z
    · subst e
      unfold edgeB at h4
      rw [ho] at h4
      simp only [Option.map_some, Option.getD_some, List.any_eq_true, Bool.and_eq_true, beq_iff_eq] at h4
      obtain ⟨e, he1, he2, he3⟩ := h4
      have := ha e (by simpa using he1) he2
      rwa [he3] at this
    · have hLj := all_ahead hs hc ho ha n j (by omega) (by omega)
      cases hLi : L i with
      | true => rfl
      | false => rw [hc j i h4 hLi] at hLj; cases hLj
theorem closed_set {listed : Array Bool} {j : Nat} (h : Closed ops (fun k => listed.getD k false)) (hj : j ∈ Region.ready .any ops listed) : Closed ops (fun k => (listed.setIfInBounds j true).getD k false) := by
  obtain ⟨h0, o, ho, ha⟩ := mem_ready.1 hj
  have hlt : j < listed.size := by
    rcases Nat.lt_or_ge j listed.size with h' | h'
    · exact h'
    · rw [Array.getD_eq_getD_getElem?, Array.getElem?_eq_none h'] at h0
      cases h0
  rw [listed_set hlt]
  exact h.next ho ha
def wpAnyM (P : Program) (ops : Array Oper) (C : World → Prop) (z : Nat) (R : Act → Prop) : Nat → Array Bool → Act → Prop
  | 0, _, _ => False
  | fuel + 1, listed, a => Region.ready .any ops listed ≠ [] ∧ ∀ i ∈ Region.ready .any ops listed, if i = z then (fuel = 0 ∧ Region.ready .any ops (listed.setIfInBounds z true) = [] ∧ R a) else qOp P ops C i (wpAnyM P ops C z R fuel (listed.setIfInBounds i true)) a
theorem wpAny_of_M {Q : Exit → Act → World → Prop} {R : Act → Prop} {z : Nat} (hR : ∀ a w, C w → R a → wpOp P ops Q z (fun a' w' => Q .normal a' w') a w) : ∀ (fuel : Nat) (listed : Array Bool) (a : Act) (w : World), C w → wpAnyM P ops C z R fuel listed a → wpAny P .any ops Q fuel listed a w
  | 0, _, _, _, _, h => h.elim
  | fuel + 1, listed, a, w, hw, h => ⟨fun h0 => absurd h0 h.1, fun i hi => by
      have h2 := h.2 i hi
      by_cases hz : i = z
      · rw [if_pos hz] at h2
        obtain ⟨h3, hr, hRa⟩ := h2
        subst h3
        subst hz
        exact wpOp_mono (fun a' w' h' => ⟨hr, h'⟩) (hR a w hw hRa)
      · rw [if_neg hz] at h2
        exact wpOp_of_qOp hw (fun a' w' hw' => wpAny_of_M hR fuel _ a' w' hw') h2⟩
theorem wpAnyM_first {R : Act → Prop} {z i : Nat} {oi : Oper} {v : Value} (hs : succB ops z = true) (hi : ops[i]? = some oi) (hiz : i < z) (hsel : ∀ (j : Nat) (o : Oper) cs b, ops[j]? = some o → o.op ≠ .select cs b) :
    ∀ (fuel : Nat) (listed : Array Bool) (a : Act), Closed ops (fun k => listed.getD k false) →
      (∀ j oj, ops[j]? = some oj → j ≠ i → listed.getD j true = false → (∀ e ∈ oj.after, Region.binds .any e = true → e.on ≠ i) → oi.apart ops oj = true) →
      i ∈ Region.ready .any ops listed → YieldsIn P ops C oi v a →
      wpAnyM P ops C z R fuel (listed.setIfInBounds i true) (a.put oi.dst v) → wpAnyM P ops C z R (fuel + 1) listed a := by
  intro fuel
  induction fuel with
  | zero => intro listed a _ _ _ _ H; exact H.elim
  | succ fuel ih =>
    intro listed a hcl hfree hr hy H
    refine ⟨fun h => (by rw [h] at hr; cases hr), fun j hj => ?_⟩
    by_cases hji : j = i
    · rw [if_neg (by omega)]; subst hji; exact hy.qOp hi H
    · have hjz : j ≠ z := fun e => by
        subst e
        obtain ⟨_, o, ho, ha⟩ := mem_ready.1 hj
        have h1 := all_ahead hs hcl ho ha _ i (Nat.le_refl _) hiz
        have h0 := (mem_ready.1 hr).1
        rcases Nat.lt_or_ge i listed.size with h' | h'
        · simp [h'] at h0 h1; rw [h0] at h1; cases h1
        · simp [Array.getElem?_eq_none h'] at h1
      rw [if_neg hjz]
      have h1 := H.2 j (ready_mono hj hji)
      rw [if_neg hjz] at h1
      obtain ⟨hjun, oj, hoj, hall⟩ := mem_ready.1 hj
      have hnot : ∀ e ∈ oj.after, Region.binds .any e = true → e.on ≠ i := fun e he hb heq => by
        have h1 := hall e he hb
        have h0 := (mem_ready.1 hr).1
        rw [heq] at h1
        rcases Nat.lt_or_ge i listed.size with h' | h'
        · simp [h'] at h0 h1; rw [h0] at h1; cases h1
        · simp [Array.getElem?_eq_none h'] at h1
      have h2 := qOp_put hoj (hfree j oj hoj hji hjun hnot) (fun cs b => hsel i oi cs b hi) (fun cs b => hsel j oj cs b hoj) hy h1
      have hfree' : ∀ k ok, ops[k]? = some ok → k ≠ i → (listed.setIfInBounds j true).getD k true = false →
          (∀ e ∈ ok.after, Region.binds .any e = true → e.on ≠ i) → oi.apart ops ok = true := fun k ok hk hki hun hno => by
        refine hfree k ok hk hki ?_ hno
        by_cases hjk : j = k
        · subst hjk; exact hjun
        · rw [getD_set_ne true hjk] at hun; exact hun
      refine qOp_mono (fun a' h3 => ih (listed.setIfInBounds j true) a' (closed_set hcl hj) hfree' (ready_mono hr (Ne.symm hji)) h3.1 ?_) h2
      rw [Array.setIfInBounds_comm _ _ hji]
      exact h3.2
theorem wpAnyM_lex {R : Act → Prop} {z : Nat} (hns : Region.noSelect ops = true) (hs : succB ops z = true) : ∀ (l : List Oper) (k : Nat) (listed : Array Bool) (a : Act), k + l.length = z → (∀ j, j < l.length → l[j]? = ops[k + j]?) → Closed ops (fun k => listed.getD k false) →
    Region.lexFrom .any ops (l.length + 1) k listed = true → wpQuiet P ops C R l a → wpAnyM P ops C z R (l.length + 1) listed a
  | [], k, listed, a, hk, _, _, hB, h => by
    simp only [List.length_nil, Region.lexFrom, Bool.and_eq_true] at hB
    obtain ⟨⟨hr, _⟩, he⟩ := hB
    have hk' : k = z := by simpa using hk
    subst hk'
    have hr' : k ∈ Region.ready .any ops listed := by simpa using hr
    have he' : Region.ready .any ops (listed.setIfInBounds k true) = [] := by simpa using he
    refine ⟨fun h => (by rw [h] at hr'; cases hr'), fun i hi => ?_⟩
    by_cases hik : i = k
    · rw [if_pos hik]; exact ⟨rfl, he', h⟩
    · have := ready_mono hi hik
      rw [he'] at this
      cases this
  | o :: l, k, listed, a, hk, hl, hcl, hB, h => by
    have h0 : ops[k]? = some o := by simpa using (hl 0 (by simp)).symm
    simp only [List.length_cons] at hk hB ⊢
    rw [Region.lexFrom] at hB
    simp only [Bool.and_eq_true] at hB
    obtain ⟨⟨hr, hf⟩, hB'⟩ := hB
    have hr' : k ∈ Region.ready .any ops listed := by simpa using hr
    have hst : qOp P ops C k (wpQuiet P ops C R l) a := by unfold qOp; simp only [h0]; exact h
    obtain ⟨v, hy, hK⟩ := yieldsIn_of_qOp h0 hst
    exact wpAnyM_first hs h0 (by omega) (Region.noSelect_spec hns) (l.length + 1) listed a hcl (Region.free_spec h0 hf) hr' hy
      (wpAnyM_lex hns hs l (k + 1) _ _ (by omega) (fun j hj => by have := hl (j + 1) (by simpa using hj); simpa [Nat.add_assoc, Nat.add_comm 1 j] using this) (closed_set hcl hr') hB' hK)
end
/-- the walk: what only reads in the text's order, then the last operation -/
theorem wp_region_last {P : Program} {id : Nat} {Q : Exit → Act → World → Prop} {a : Act} {w : World} {l : List Oper} (n : Nat) {o : Oper} (hm : P.follows .mixedOrders = true) (hl : l.length = n + 1) (ho : l[n]? = some o) (hB : Region.lexB .any l.toArray = true) (hs : succB l.toArray n = true)
    (h : wpQuiet P l.toArray (fun w' => ∃ p : BW w, w' = p.u) (fun a' => ∀ w', (∃ p : BW w, w' = p.u) → if Region.wanted o (yielded l.toArray a'.tmps) = true then o.wp P a' w' (fun a w => Q .normal a w) Q else Q .normal (a'.put o.dst undef) w') (l.take n) a) : (Code.region id l.toArray true).wp P Q a w := by
  simp only [Region.lexB, Bool.and_eq_true] at hB
  have hlt : (l.take n).length = n := by rw [List.length_take]; omega
  refine wp_region_any hm (wpAny_of_M (C := fun w' => ∃ p : BW w, w' = p.u) (z := n) (R := fun a' => ∀ w', (∃ p : BW w, w' = p.u) → if Region.wanted o (yielded l.toArray a'.tmps) = true then o.wp P a' w' (fun a w => Q .normal a w) Q else Q .normal (a'.put o.dst undef) w') ?_ _ _ _ _ ⟨⟨_, k_drew (Below.refl _ _)⟩, rfl⟩ ?_)
  · intro a' w' hw' hR
    have h1 := hR w' hw'
    unfold wpOp
    rw [show l.toArray[n]? = some o by simpa using ho]
    dsimp only
    split
    · rename_i hw; rw [if_pos hw] at h1; exact .inl h1
    · rename_i hw; rw [if_neg hw] at h1; exact h1
  · have := wpAnyM_lex (P := P) (C := fun w' => ∃ p : BW w, w' = p.u) hB.1 hs (l.take n) 0 (Array.replicate l.toArray.size false) a (by omega) (fun j hj => by rw [hlt] at hj; simp [hj]) (fun j i _ _ => by
      show (Array.replicate l.toArray.size false).getD j false = false
      rw [Array.getD_eq_getD_getElem?, Array.getElem?_replicate]
      split <;> rfl) (by rw [hlt, ← hl]; simpa using hB.2) h
    rw [hlt, ← hl] at this
    simpa using this
end Go.Proofs.YtfkkhfiiokhnaaeGreat
namespace Go.Proofs.YtfkkhfiiokhnaaeGreat
open Go.RowKit Go.Shelf Go.Lib Go.Sort

set_option maxHeartbeats 1000000 in
theorem compare_any (a b : Int) (w : World) : Calls Tryz.prog 121 #[.int .i64 a, .int .i64 b] w fun e w' => e = .returned (.int .i64 (if a < b then -1 else if b < a then 1 else 0)) ∧ w' = w := by
  have hn : ∀ (x : Int) (W : World), Calls Tryz.prog 128 #[.int .i64 x] W fun e w' => e = .returned (.bool false) ∧ w' = W := fun x W => by
    have hx : (x != x) = false := by simp
    go_enter Tryz.func128, Tryz.ntmps128
    go_wp2
    go_ret
    exact ⟨rfl, rfl⟩
  by_cases h1 : a < b
  · rw [if_pos h1]
    go_enter Tryz.func121, Tryz.ntmps121
    go_wp2_with (go_at_call 128; refine (hn _ _).mono ?_; rintro e w' ⟨rfl, rfl⟩)
    go_ret
    exact ⟨rfl, rfl⟩
  · rw [if_neg h1]
    by_cases h2 : b < a
    · rw [if_pos h2]
      go_enter Tryz.func121, Tryz.ntmps121
      go_wp2_with (go_at_call 128; refine (hn _ _).mono ?_; rintro e w' ⟨rfl, rfl⟩)
      go_ret
      exact ⟨rfl, rfl⟩
    · rw [if_neg h2]
      go_enter Tryz.func121, Tryz.ntmps121
      go_wp2_with (go_at_call 128; refine (hn _ _).mono ?_; rintro e w' ⟨rfl, rfl⟩)
      go_ret
      exact ⟨rfl, rfl⟩

set_option maxHeartbeats 1000000 in
theorem rank_any (x y : Cl) (W : World) : Calls Tryz.prog 110 #[.agg #[.int .i64 x.p, .int .i64 x.w, .int .i64 x.o], .agg #[.int .i64 y.p, .int .i64 y.w, .int .i64 y.o]] W fun e w' => e = .returned (.int .i64 (cfC x y)) ∧ ∃ q os', w' = grow (W.drewN q) os' := by
  have hcon := fun W' => compare_any y.o x.o W'
  have he : cfC x y = (if y.o < x.o then -1 else if x.o < y.o then 1 else 0) := rfl
  rw [he]
  generalize (if y.o < x.o then (-1 : Int) else if x.o < y.o then 1 else 0) = r at hcon
  go_enter Tryz.func110, Tryz.ntmps110
  go_wp2_with (go_at_call 121; refine (hcon _).mono ?_; rintro e w' ⟨rfl, rfl⟩)
  go_ret
  exact ⟨rfl, 0, _, by rw [alloc_eq_grow, alloc_eq_grow, grow_grow]; rfl⟩
theorem cmpC (blk off size : Nat) (w : World) : CmpLays Tryz.prog 110 #[] encC 3 cfC blk off size w := fun _ _ _ _ x y => rank_any x y _
theorem egC : ∀ args w, (callFunc 110 args).run Tryz.prog w = .ok (.enter 110 args) w := enters_of Tryz.func110 (by kernel_rfl) rfl

theorem size_insInner (lt : Cl → Cl → Bool) (a : Nat) : ∀ (j : Nat) (d : Array Cl), (insInner lt a j d).size = d.size
  | 0, d => by unfold insInner; rfl
  | j + 1, d => by
    unfold insInner
    split
    · rw [size_insInner lt a j, size_swp]
    · rfl
theorem size_insOuter (lt : Cl → Cl → Bool) (a b : Nat) : ∀ (n i : Nat) (d : Array Cl), b - i = n → (insOuter lt a b i d).size = d.size
  | 0, i, d, hn => by rw [insOuter_stop _ _ _ _ _ (by omega)]
  | n + 1, i, d, hn => by rw [insOuter_go _ _ _ _ _ (by omega), size_insOuter lt a b n (i + 1) _ (by omega), size_insInner]
theorem size_ins (d : Array Cl) (a b : Nat) : (Sort.insertionSort (ltOf cfC) d a b).size = d.size := size_insOuter _ _ _ _ _ _ rfl
shelf_lay_g SlLaysF0.n20 Slsf 20 at Tryz 126 as insC

/-- what the library's insertion sort does with a part of a row of claims, from a world of the sort's to one -/
theorem ins_any (blk off cap a b : Nat) (d0 d : Array Cl) (w0 w : World) (R : RowK encC 3 w0 blk off d0) (hs : d0.size = d.size) (S : SWK encC 3 w0 blk off d w) (hab : a ≤ b) (hb : b ≤ d.size) (hsz : d.size < 4611686018427387904) :
    Calls Tryz.prog 126 #[.slice (some ⟨blk, off, none⟩) d.size cap, .int .i64 a, .int .i64 b, .func (.func 110) #[] #[]] w fun e w' =>
      e = .returned (.tuple #[]) ∧ SWK encC 3 w0 blk off (Sort.insertionSort (ltOf cfC) d a b) w' := by
  have hbl : blk < w.heap.size := Nat.lt_of_lt_of_le R.hblk S.le
  refine (AnyQ.insertionSortCmpFunc insC 3 Tryz.isAgg140 Tryz.sizeOf140 encC encC_len encC_one cfC 110 #[] blk off cap a b d w egC (cmpC blk off d.size w) (S.holds R.hblk R.hH (by omega)) hbl hab hb hsz).mono ?_
  rintro e w' ⟨rfl, n, os, rfl⟩
  exact ⟨rfl, S.on R.hblk n _ os (size_ins d a b)⟩
end Go.Proofs.YtfkkhfiiokhnaaeGreat
