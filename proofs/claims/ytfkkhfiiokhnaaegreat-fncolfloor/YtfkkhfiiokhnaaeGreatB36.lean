/-
  PROVED HERE: where columns begin and end, and how wide a cell is, at small numbers. Also: what the program's shareUpTo answers at every argument that may be, in memory of its own; nothing that was in memory is turned. Also: what the program's TxtWish answers. Also: the program's mayBeWide: a table that is ok, and a width that may be; nothing that was in memory is turned. Also: a region that draws its order, whose first operations only read (their callees turn nothing that was in memory), and whose next one waits for all of them: the first ones may be walked once, in the text's order; what follows is walked in every order. Also: a code that lies in memory stays where it is; a table abides five stores ahead of it: for the texts that draw a table. Also: DrawColFloor draws a table; nothing that was in memory is turned. Also: what the laws' own pwInts answers of two lists of numbers in memory that are the same; nothing that was in memory is turned. Also: what the laws' own pwSum answers of lists of numbers in memory; nothing that was in memory is turned. Also: the laws' own pwOk says true; nothing in memory is turned.
-/
import Derived.Test.YtfkkhfiiokhnaaeGreatB27
import Derived.Test.YtfkkhfiiokhnaaeGreatB35
import Derived.Test.YtfkkhfiiokhnaaeGreatB26
import Derived.Test.YtfkkhfiiokhnaaeGreatB21
import Derived.Test.YtfkkhfiiokhnaaeGreatB6
import Derived.Test.YtfkkhfiiokhnaaeGreatB29
import Derived.Test.YtfkkhfiiokhnaaeGreatB18
import Derived.Test.YtfkkhfiiokhnaaeGreatB23
import Derived.Test.YtfkkhfiiokhnaaeGreatB3
import Derived.Deep.RegionWith
import Derived.Deep.QuietTactic
import Derived.BigQuiet
namespace Go.Proofs.YtfkkhfiiokhnaaeGreat
open Go.RowKit

theorem sumS {l : List Int} (h : ∀ x ∈ l, 0 ≤ x ∧ x ≤ 20) : ∀ k, k ≤ l.length → 0 ≤ sumTo l k ∧ sumTo l k ≤ 20 * (k : Int)
  | 0, _ => by simp [sumTo]
  | k + 1, hk => by
    have h1 := sumS h k (by omega)
    have h2 := h l[k] (List.getElem_mem (by omega))
    have e : l.getD k 0 = l[k] := by simp [List.getD, show k < l.length by omega]
    rw [sumTo_succ (by omega), e]
    omega
theorem gapS {gap : Int} (h : -1 ≤ gap ∧ gap ≤ 4) {k : Nat} (hk : k ≤ 6) : -6 ≤ gap * (k : Int) ∧ gap * (k : Int) ≤ 24 := by
  rcases (by omega : gap = -1 ∨ gap = 0 ∨ gap = 1 ∨ gap = 2 ∨ gap = 3 ∨ gap = 4) with rfl | rfl | rfl | rfl | rfl | rfl <;> omega
theorem atS {l : List Int} (h : ∀ x ∈ l, 0 ≤ x ∧ x ≤ 20) (hl : l.length ≤ 6) {gap : Int} (hg : -1 ≤ gap ∧ gap ≤ 4) {k : Nat} (hk : k ≤ l.length) : atV l gap k = sumTo l k + gap * (k : Int) ∧ -6 ≤ atV l gap k ∧ atV l gap k ≤ 200 := by
  have h1 := sumS h k hk
  have h2 := gapS hg (show k ≤ 6 by omega)
  have e : atV l gap k = sumTo l k + gap * (k : Int) := by
    rw [atV, aheadN_nat l hk, W_small (by omega)]
  rw [e]
  omega
theorem getS {l : List Int} (h : ∀ x ∈ l, 0 ≤ x ∧ x ≤ 20) {k : Nat} (hk : k < l.length) : 0 ≤ l.getD k 0 ∧ l.getD k 0 ≤ 20 := by
  have e : l.getD k 0 = l[k] := by simp [List.getD, hk]
  rw [e]; exact h _ (List.getElem_mem hk)
theorem endS {l : List Int} (h : ∀ x ∈ l, 0 ≤ x ∧ x ≤ 20) (hl : l.length ≤ 6) {gap : Int} (hg : -1 ≤ gap ∧ gap ≤ 4) {k : Nat} (hk : k < l.length) : endV l gap k = sumTo l (k + 1) + gap * (k : Int) ∧ -6 ≤ endV l gap k ∧ endV l gap k ≤ 300 := by
  have h1 := atS h hl hg (show k ≤ l.length by omega)
  have h2 := getS h hk
  have e : endV l gap k = atV l gap k + l.getD k 0 := by
    rw [endV, if_pos (inB_true (by omega) (by omega)), Int.toNat_natCast, W_small (by omega)]
  rw [e, sumTo_succ hk]
  omega
theorem ownL_none {l : List Int} {p : Nat → Bool} : ∀ k, (∀ i, i < k → p i = false) → ownL l p k = []
  | 0, _ => rfl
  | k + 1, h => by rw [ownL, if_neg (by rw [h k (by omega)]; simp)]; exact ownL_none k (fun i hi => h i (by omega))
theorem cellV_none {l : List Int} {gap : Int} {x : GC} (h : x.cols ≤ 0) : cellV l gap x = 0 := by
  unfold cellV
  rw [ownL_none _ (fun i _ => by simp [inCell, amongB]; omega)]
  rfl
theorem own_span {l : List Int} {x : GC} {c m : Nat} (hc : x.col = c) (hm : x.cols = m) : ∀ k, k ≤ l.length → (ownL l (inCell x) k).length = min m (k - c) ∧ (ownL l (inCell x) k).sum = sumTo l (min k (c + m)) - sumTo l (min k c)
  | 0, _ => by simp [ownL, sumTo]
  | k + 1, hk => by
    obtain ⟨h1, h2⟩ := own_span (l := l) hc hm k (by omega)
    by_cases hin : c ≤ k ∧ k < c + m
    · have e : inCell x k = true := by simp [inCell, amongB, hc, hm]; omega
      rw [ownL_yes e, List.length_append, List.sum_append, h1, h2]
      have e1 : min (k + 1) (c + m) = k + 1 := by omega
      have e2 : min k (c + m) = k := by omega
      have e3 : min (k + 1) c = c := by omega
      have e4 : min k c = c := by omega
      rw [e1, e2, e3, e4, sumTo_succ (by omega)]
      simp
      omega
    · have e : inCell x k = false := by simp [inCell, amongB, hc, hm]; omega
      rw [ownL_no e, h1, h2]
      have e1 : min (k + 1) (c + m) = min k (c + m) ∨ min (k + 1) c = k + 1 := by omega
      by_cases hkc : k < c
      · have a1 : min (k + 1) (c + m) = k + 1 := by omega
        have a2 : min k (c + m) = k := by omega
        have a3 : min (k + 1) c = k + 1 := by omega
        have a4 : min k c = k := by omega
        rw [a1, a2, a3, a4]
        omega
      · have a1 : min (k + 1) (c + m) = min k (c + m) := by omega
        have a3 : min (k + 1) c = min k c := by omega
        rw [a1, a3]
        omega
theorem cellV_small {l : List Int} (h : ∀ x ∈ l, 0 ≤ x ∧ x ≤ 20) (hl : l.length ≤ 6) {gap : Int} (hg : -1 ≤ gap ∧ gap ≤ 4) {x : GC} {c m : Nat} (hc : x.col = c) (hm : x.cols = m) (h1 : 1 ≤ m) (h2 : c + m ≤ l.length) :
    cellV l gap x = endV l gap ((c : Int) + (m : Int) - 1) - atV l gap c ∧ (-9 ≤ atV l gap c ∧ atV l gap c ≤ 300) ∧ -9 ≤ endV l gap ((c : Int) + (m : Int) - 1) ∧ endV l gap ((c : Int) + (m : Int) - 1) ≤ 300 := by
  have ek : (c : Int) + (m : Int) - 1 = ((c + m - 1 : Nat) : Int) := by omega
  rw [ek]
  have hE := endS h hl hg (show c + m - 1 < l.length by omega)
  have hA := atS h hl hg (show c ≤ l.length by omega)
  obtain ⟨o1, o2⟩ := own_span (l := l) hc hm l.length (Nat.le_refl _)
  rw [show min m (l.length - c) = m by omega] at o1
  rw [show min l.length (c + m) = c + m by omega, show min l.length c = c by omega] at o2
  have hs1 := sumS h (c + m) h2
  have hs2 := sumS h c (by omega)
  have hgm := gapS hg (show m - 1 ≤ 6 by omega)
  rw [show ((m - 1 : Nat) : Int) = (m : Int) - 1 by omega] at hgm
  have e : cellV l gap x = sumTo l (c + m) - sumTo l c + gap * ((m : Int) - 1) := by
    unfold cellV
    rw [acrV_cons (by rw [o1]; omega), o1, o2, W_small (by omega)]
  refine ⟨?_, by omega, by omega⟩
  rw [e, hE.1, hA.1, show c + m - 1 + 1 = c + m by omega, show ((c + m - 1 : Nat) : Int) = (c : Int) + ((m : Int) - 1) by omega, Int.mul_add]
  omega
end Go.Proofs.YtfkkhfiiokhnaaeGreat
namespace Go.Proofs.YtfkkhfiiokhnaaeGreat
open Go.RowKit

theorem infoU4 : (Tryz.prog.info? 3).map (fun i => (i.zero, i.size, i.bytes)) = some (some (Value.int .i64 0), 1, 8) := by kernel_rfl
set_option maxRecDepth 100000 in
set_option maxHeartbeats 4000000 in
theorem shareUpTo_any (t : Int) (v : Value) (l : List Int) (hok : shrOkB t l = true) (w : World) (h : IntsAt w v l) :
    Calls Tryz.prog 77 #[.int .i64 t, v] w fun e w' => ∃ x, e = .returned (.tuple #[x, .int .i64 (upToN t l)]) ∧ RowI w' w.heap.size w'.heap.size x (upToL t l) ∧ Below w.heap.size w w' := by
  obtain ⟨i0, hi0, hz0, hz1, hz2⟩ := info_parts infoU4
  obtain ⟨a, cap, rfl, _⟩ := h.form
  have H := Hid.intro h
  obtain ⟨ht, hl, hw⟩ := shrOk_parts hok
  have hsb := sum_bound hw
  have HS := Hid.intro (fun W => implsumOf_any (.slice a l.length cap) l (by omega) hw W)
  by_cases hs : l.sum ≤ t
  · obtain ⟨e1, e2⟩ := upTo_all hok hs
    have E1 := Hid.intro e1
    have E2 := Hid.intro e2
    clear e1 e2 hw
    by_cases h0 : 0 < l.length
    · obtain ⟨b, off, cap', e', _, _, hbw, _⟩ := h.get h0
      simp only [Value.slice.injEq, true_and] at e'
      obtain ⟨rfl, rfl⟩ := e'
      clear h
      go_enter Tryz.func77, Tryz.ntmps77
      go_wp2_with fail
      refine (HS.out _ H.out).mono ?_
      rintro e w1 ⟨rfl, ex⟩
      cases ex
      generalize l.sum = s at hs E2 hsb
      go_wp2_with (at_builtin; refine wpList_append_own_at _ rfl _ _ 32 rfl w.heap.size 3 i0 (.int .i64 0) 1 8 Tryz.underlying32 hi0 hz0 hz1 hz2 rfl (by decide) _ 0 [] rfl (World.ownsRow_nil w w.heap.size 3 1) ⟨b, off, none⟩ l.length cap (l.map (Value.int .i64)) rfl ?e1 (map_cells H.out (Below.refl _ _)) (map_one l) ?e4 ?e5 ?e6 ?_)
      case e1 => simp
      case e4 => unfold maxLen; omega
      case e5 => omega
      case e6 => exact Nat.le_refl _
      intro v5 w5 ho5 hg5 _ _
      have R5 := Hid.intro (RowI.of_owns (l := l) (by simpa using ho5))
      have K5 : Hid (Below w.heap.size w w5) := (Below.refl w.heap.size w).grown hg5 (Nat.le_refl _) (fun q hq => by simp [Value.ownBlock] at hq)
      obtain ⟨a5, c5, rfl⟩ := R5.out.form
      clear ho5 hg5
      go_wp2
      go_ret2
      exact ⟨_, retT E2.out.symm, by rw [E1.out]; exact R5.out, K5.out⟩
    · obtain rfl : l = [] := List.eq_nil_of_length_eq_zero (by omega)
      clear h
      cases a with
      | none =>
        go_enter Tryz.func77, Tryz.ntmps77
        go_wp2_with fail
        refine (HS.out _ H.out).mono ?_
        rintro e w1 ⟨rfl, ex⟩
        cases ex
        generalize ([] : List Int).sum = s at hs E2 hsb
        go_wp2
        go_ret2
        exact ⟨_, retT E2.out.symm, by rw [E1.out]; exact .inl ⟨rfl, rfl⟩, Below.refl _ _⟩
      | some p =>
        go_enter Tryz.func77, Tryz.ntmps77
        go_wp2_with fail
        refine (HS.out _ H.out).mono ?_
        rintro e w1 ⟨rfl, ex⟩
        cases ex
        generalize ([] : List Int).sum = s at hs E2 hsb
        go_wp2
        go_ret2
        exact ⟨_, retT E2.out.symm, by rw [E1.out]; exact .inl ⟨rfl, rfl⟩, Below.refl _ _⟩
  · obtain ⟨e1, e2⟩ := upTo_share hok hs
    have E1 := Hid.intro e1
    have E2 := Hid.intro e2
    have HSh := Hid.intro (fun W => shareOut_any t (.slice a l.length cap) l hok W)
    clear e1 e2 hw h
    go_enter Tryz.func77, Tryz.ntmps77
    go_wp2_with fail
    refine (HS.out _ H.out).mono ?_
    rintro e w1 ⟨rfl, ex⟩
    cases ex
    generalize l.sum = s at hs hsb
    go_wp2_with fail
    refine (HSh.out _ H.out).mono ?_
    rintro e w2 ⟨x, rfl, hr, hb⟩
    have R := Hid.intro (And.intro hr hb)
    clear hr hb
    go_wp2
    go_ret2
    exact ⟨x, retT E2.out.symm, by rw [E1.out]; exact R.out.1, R.out.2⟩
end Go.Proofs.YtfkkhfiiokhnaaeGreat
namespace Go.Proofs.YtfkkhfiiokhnaaeGreat
open Go.RowKit

theorem implTxtWish (s : ByteArray) (hs : s.size ≤ maxLen) (w : World) : Calls Tryz.prog 53 #[.string s] w fun e w' => e = .returned (.int .i64 (wishOf s)) ∧ w' = w := by
  unfold wishOf
  have hm := hs
  unfold maxLen at hm
  cases hok : txtOkB s
  all_goals
    go_enter Tryz.func53, Tryz.ntmps53
    go_wp2_with (go_at_call 39; refine (implTxtOk _ _ hs).mono ?_; rintro e w' ⟨rfl, rfl⟩; rw [hok])
    go_ret
    exact ⟨rfl, rfl⟩
end Go.Proofs.YtfkkhfiiokhnaaeGreat
namespace Go.Proofs.YtfkkhfiiokhnaaeGreat
open Go.RowKit

set_option maxRecDepth 100000 in
set_option maxHeartbeats 1000000 in
theorem implmayBeWide (ac ar : Option Addr) (cc cr : Nat) (t : T) (width : Int) (w : World) {z : Nat} (hc : ColsAt w z (.slice ac t.cols.length cc) t.cols) (hr : RowsAt w z (.slice ar t.rows.length cr) t.rows) :
    Calls Tryz.prog 45 #[.agg #[.slice ac t.cols.length cc, .int .i64 t.head, .int .i64 t.foot, .slice ar t.rows.length cr, .int .i64 t.gap], .int .i64 width] w fun e w' => e = .returned (.bool (tblB t && inB width 0 300)) ∧ Below w.heap.size w w' := by
  have K0 := k_alloc (Below.refl w.heap.size w) (.cells #[.slice ac t.cols.length cc, .int .i64 t.head, .int .i64 t.foot, .slice ar t.rows.length cr, .int .i64 t.gap] 26)
  have KT := Hid.intro (implTblOk ac ar cc cr t _ (hc.kept K0) (hr.kept K0))
  have HK0 := Hid.intro K0
  have HI := Hid.intro (within_any width 0 300)
  clear hc hr K0
  cases htk : tblB t with
  | false =>
    rw [htk] at KT
    clear htk
    go_enter Tryz.func45, Tryz.ntmps45
    go_wp2_with fail
    refine KT.out.mono ?_
    rintro e w1 ⟨rfl, hb1⟩
    have HK1 := Hid.intro (k_trans HK0.out hb1)
    clear hb1 KT HK0
    go_wp2
    go_ret
    exact ⟨rfl, HK1.out⟩
  | true =>
    rw [htk] at KT
    clear htk
    go_enter Tryz.func45, Tryz.ntmps45
    go_wp2_with fail
    refine KT.out.mono ?_
    rintro e w1 ⟨rfl, hb1⟩
    have HK1 := Hid.intro (k_trans HK0.out hb1)
    clear hb1 KT HK0
    go_wp2_with fail
    refine (HI.out _).mono ?_
    rintro e w2 ⟨rfl, rfl⟩
    go_wp2
    go_ret
    exact ⟨by simp, HK1.out⟩
end Go.Proofs.YtfkkhfiiokhnaaeGreat
namespace Go.Proofs.YtfkkhfiiokhnaaeGreat
open Go.RowKit

section
variable {P : Program} {ops : Array Oper} {C : World → Prop}
/-- the first k operations have come up -/
def listedTo (n : Nat) : Nat → Array Bool
  | 0 => Array.replicate n false
  | k + 1 => (listedTo n k).setIfInBounds k true
def wpAnyT (P : Program) (ops : Array Oper) (C : World → Prop) (Q : Exit → Act → World → Prop) (z : Nat) : Nat → Array Bool → Act → Prop
  | 0, _, _ => False
  | fuel + 1, listed, a => Region.ready .any ops listed ≠ [] ∧ ∀ i ∈ Region.ready .any ops listed, if i = z then (∀ w, C w → wpOp P ops Q z (wpAny P .any ops Q fuel (listed.setIfInBounds z true)) a w) else qOp P ops C i (wpAnyT P ops C Q z fuel (listed.setIfInBounds i true)) a
theorem wpAny_of_T {Q : Exit → Act → World → Prop} {z : Nat} : ∀ (fuel : Nat) (listed : Array Bool) (a : Act) (w : World), C w → wpAnyT P ops C Q z fuel listed a → wpAny P .any ops Q fuel listed a w
  | 0, _, _, _, _, h => h.elim
  | fuel + 1, listed, a, w, hw, h => ⟨fun h0 => absurd h0 h.1, fun i hi => by
      have h2 := h.2 i hi
      by_cases hz : i = z
      · rw [if_pos hz] at h2
        subst hz
        exact h2 w hw
      · rw [if_neg hz] at h2
        exact wpOp_of_qOp hw (fun a' w' hw' => wpAny_of_T fuel _ a' w' hw') h2⟩
theorem wpAnyT_first {Q : Exit → Act → World → Prop} {z i : Nat} {oi : Oper} {v : Value} (hs : succB ops z = true) (hi : ops[i]? = some oi) (hiz : i < z) (hsel : ∀ (j : Nat) (o : Oper) cs b, ops[j]? = some o → o.op ≠ .select cs b) :
    ∀ (fuel : Nat) (listed : Array Bool) (a : Act), Closed ops (fun k => listed.getD k false) →
      (∀ j oj, ops[j]? = some oj → j ≠ i → listed.getD j true = false → (∀ e ∈ oj.after, Region.binds .any e = true → e.on ≠ i) → oi.apart ops oj = true) →
      i ∈ Region.ready .any ops listed → YieldsIn P ops C oi v a →
      wpAnyT P ops C Q z fuel (listed.setIfInBounds i true) (a.put oi.dst v) → wpAnyT P ops C Q z (fuel + 1) listed a := by
  intro fuel
  induction fuel with
  | zero => intro listed a _ _ _ _ H; exact H.elim
  | succ fuel ih =>
    intro listed a hcl hfree hr hy H
    refine ⟨fun h => (by rw [h] at hr; cases hr), fun j hj => ?_⟩
    by_cases hji : j = i
    · rw [if_neg (by omega)]; subst hji; exact hy.qOp hi H
    · have hjz : j ≠ z := fun e => by
        subst e
        obtain ⟨_, o, ho, ha⟩ := mem_ready.1 hj
        have h1 := all_ahead hs hcl ho ha _ i (Nat.le_refl _) hiz
        have h0 := (mem_ready.1 hr).1
        rcases Nat.lt_or_ge i listed.size with h' | h'
        · simp [h'] at h0 h1; rw [h0] at h1; cases h1
        · simp [Array.getElem?_eq_none h'] at h1
      rw [if_neg hjz]
      have h1 := H.2 j (ready_mono hj hji)
      rw [if_neg hjz] at h1
      obtain ⟨hjun, oj, hoj, hall⟩ := mem_ready.1 hj
      have hnot : ∀ e ∈ oj.after, Region.binds .any e = true → e.on ≠ i := fun e he hb heq => by
        have h1 := hall e he hb
        have h0 := (mem_ready.1 hr).1
        rw [heq] at h1
        rcases Nat.lt_or_ge i listed.size with h' | h'
        · simp [h'] at h0 h1; rw [h0] at h1; cases h1
        · simp [Array.getElem?_eq_none h'] at h1
      have h2 := qOp_put hoj (hfree j oj hoj hji hjun hnot) (fun cs b => hsel i oi cs b hi) (fun cs b => hsel j oj cs b hoj) hy h1
      have hfree' : ∀ k ok, ops[k]? = some ok → k ≠ i → (listed.setIfInBounds j true).getD k true = false →
          (∀ e ∈ ok.after, Region.binds .any e = true → e.on ≠ i) → oi.apart ops ok = true := fun k ok hk hki hun hno => by
        refine hfree k ok hk hki ?_ hno
        by_cases hjk : j = k
        · subst hjk; exact hjun
        · rw [getD_set_ne true hjk] at hun; exact hun
      refine qOp_mono (fun a' h3 => ih (listed.setIfInBounds j true) a' (closed_set hcl hj) hfree' (ready_mono hr (Ne.symm hji)) h3.1 ?_) h2
      rw [Array.setIfInBounds_comm _ _ hji]
      exact h3.2
theorem wpAnyT_lex {Q : Exit → Act → World → Prop} {n z f : Nat} (hns : Region.noSelect ops = true) (hs : succB ops z = true) (hz : Region.ready .any ops (listedTo n z) = [z]) : ∀ (l : List Oper) (k : Nat) (a : Act), k + l.length = z → (∀ j, j < l.length → l[j]? = ops[k + j]?) → Closed ops (fun j => (listedTo n k).getD j false) →
    Region.lexFrom .any ops (l.length + (f + 1)) k (listedTo n k) = true → wpQuiet P ops C (fun a' => ∀ w', C w' → wpOp P ops Q z (wpAny P .any ops Q f (listedTo n (z + 1))) a' w') l a → wpAnyT P ops C Q z (l.length + (f + 1)) (listedTo n k) a
  | [], k, a, hk, _, _, _, h => by
    have hk' : k = z := by simpa using hk
    subst hk'
    rw [List.length_nil, Nat.zero_add]
    refine ⟨by rw [hz]; simp, fun i hi => ?_⟩
    rw [hz] at hi
    have hik : i = k := by simpa using hi
    rw [if_pos hik]
    exact h
  | o :: l, k, a, hk, hl, hcl, hB, h => by
    have h0 : ops[k]? = some o := by simpa using (hl 0 (by simp)).symm
    simp only [List.length_cons] at hk hB ⊢
    rw [show l.length + 1 + (f + 1) = (l.length + (f + 1)) + 1 by omega] at hB ⊢
    rw [Region.lexFrom] at hB
    simp only [Bool.and_eq_true] at hB
    obtain ⟨⟨hr, hf⟩, hB'⟩ := hB
    have hr' : k ∈ Region.ready .any ops (listedTo n k) := by simpa using hr
    have hst : qOp P ops C k (wpQuiet P ops C (fun a' => ∀ w', C w' → wpOp P ops Q z (wpAny P .any ops Q f (listedTo n (z + 1))) a' w') l) a := by unfold qOp; simp only [h0]; exact h
    obtain ⟨v, hy, hK⟩ := yieldsIn_of_qOp h0 hst
    exact wpAnyT_first hs h0 (by omega) (Region.noSelect_spec hns) (l.length + (f + 1)) (listedTo n k) a hcl (Region.free_spec h0 hf) hr' hy
      (wpAnyT_lex hns hs hz l (k + 1) _ (by omega) (fun j hj => by have := hl (j + 1) (by simpa using hj); simpa [Nat.add_assoc, Nat.add_comm 1 j] using this) (closed_set hcl hr') hB' hK)
end
/-- the walk: what only reads in the text's order, then the rest -/
theorem wp_region_tail {P : Program} {id : Nat} {Q : Exit → Act → World → Prop} {a : Act} {w : World} {l : List Oper} (n f : Nat) {o : Oper} (hm : P.follows .mixedOrders = true) (hl : l.length = n + (f + 1)) (ho : l[n]? = some o) (hB : Region.lexB .any l.toArray = true) (hs : succB l.toArray n = true) (hz : Region.ready .any l.toArray (listedTo (n + (f + 1)) n) = [n])
    (h : wpQuiet P l.toArray (fun w' => ∃ p : BW w, w' = p.u) (fun a' => ∀ w', (∃ p : BW w, w' = p.u) → if Region.wanted o (yielded l.toArray a'.tmps) = true then o.wp P a' w' (wpAny P .any l.toArray Q f (listedTo (n + (f + 1)) (n + 1))) Q else wpAny P .any l.toArray Q f (listedTo (n + (f + 1)) (n + 1)) (a'.put o.dst undef) w') (l.take n) a) : (Code.region id l.toArray true).wp P Q a w := by
  simp only [Region.lexB, Bool.and_eq_true] at hB
  have hlt : (l.take n).length = n := by rw [List.length_take]; omega
  refine wp_region_any hm (wpAny_of_T (C := fun w' => ∃ p : BW w, w' = p.u) (z := n) _ _ _ _ ⟨⟨_, k_drew (Below.refl _ _)⟩, rfl⟩ ?_)
  have hcv : ∀ a', (∀ w', (∃ p : BW w, w' = p.u) → if Region.wanted o (yielded l.toArray a'.tmps) = true then o.wp P a' w' (wpAny P .any l.toArray Q f (listedTo (n + (f + 1)) (n + 1))) Q else wpAny P .any l.toArray Q f (listedTo (n + (f + 1)) (n + 1)) (a'.put o.dst undef) w') → ∀ w', (∃ p : BW w, w' = p.u) → wpOp P l.toArray Q n (wpAny P .any l.toArray Q f (listedTo (n + (f + 1)) (n + 1))) a' w' := by
    intro a' hR w' hw'
    have h1 := hR w' hw'
    unfold wpOp
    rw [show l.toArray[n]? = some o by simpa using ho]
    dsimp only
    split
    · rename_i hw; rw [if_pos hw] at h1; exact .inl h1
    · rename_i hw; rw [if_neg hw] at h1; exact h1
  have hmono : ∀ (q : List Oper) (b : Act), wpQuiet P l.toArray (fun w' => ∃ p : BW w, w' = p.u) (fun a' => ∀ w', (∃ p : BW w, w' = p.u) → if Region.wanted o (yielded l.toArray a'.tmps) = true then o.wp P a' w' (wpAny P .any l.toArray Q f (listedTo (n + (f + 1)) (n + 1))) Q else wpAny P .any l.toArray Q f (listedTo (n + (f + 1)) (n + 1)) (a'.put o.dst undef) w') q b → wpQuiet P l.toArray (fun w' => ∃ p : BW w, w' = p.u) (fun a' => ∀ w', (∃ p : BW w, w' = p.u) → wpOp P l.toArray Q n (wpAny P .any l.toArray Q f (listedTo (n + (f + 1)) (n + 1))) a' w') q b := by
    intro q
    induction q with
    | nil => intro b hb; exact hcv b hb
    | cons o q ih =>
      intro b hb
      simp only [wpQuiet] at hb ⊢
      split
      · rename_i hw; rw [if_pos hw] at hb; exact Oper.quiet_mono ih hb
      · rename_i hw; rw [if_neg hw] at hb; exact ih _ hb
  have := wpAnyT_lex (P := P) (Q := Q) (n := n + (f + 1)) (f := f) (C := fun w' => ∃ p : BW w, w' = p.u) hB.1 hs hz (l.take n) 0 a (by omega) (fun j hj => by rw [hlt] at hj; simp [hj]) (fun j i _ _ => by
    show (Array.replicate (n + (f + 1)) false).getD j false = false
    rw [Array.getD_eq_getD_getElem?, Array.getElem?_replicate]
    split <;> rfl) (by rw [hlt]; have h9 := hB.2; rw [show l.toArray.size = n + (f + 1) by simpa using hl] at h9; exact h9) (hmono _ _ h)
  rw [hlt] at this
  rw [show l.toArray.size = n + (f + 1) by simpa using hl]
  exact this
end Go.Proofs.YtfkkhfiiokhnaaeGreat
namespace Go.Proofs.YtfkkhfiiokhnaaeGreat
open Go.RowKit

theorem IsCode.kept {w w' : World} {a : Option Addr} {len cap : Nat} (h : IsCode w a len cap) (hb : Below w.heap.size w w') : IsCode w' a len cap := by
  obtain ⟨h1, h2, hc⟩ := h
  refine ⟨h1, h2, fun i hi => ?_⟩
  obtain ⟨b, off, z, e, l, c, z0, z1⟩ := hc i hi
  exact ⟨b, off, z, e, Nat.lt_of_lt_of_le l hb.size, (hb.cell (p := ⟨b, off + i, none⟩) l).trans c, z0, z1⟩
/-- a table that lies in memory abides five stores into a block that was there ahead of it -/
theorem Since.st5 {w : World} {z g : Nat} (hg : g < z) (y0 y1 y2 y3 y4 : Value) : Since z w (st5 w g y0 y1 y2 y3 y4) := ⟨(st5_bk w g y0 y1 y2 y3 y4).size, fun k hk hl => (st5_bk w g y0 y1 y2 y3 y4).block k hl (by omega)⟩

end Go.Proofs.YtfkkhfiiokhnaaeGreat
namespace Go.Proofs.YtfkkhfiiokhnaaeGreat
open Go.RowKit

set_option maxRecDepth 100000 in
set_option maxHeartbeats 1000000 in
theorem drawColFloor_any (a : Option Addr) (len cap : Nat) (w : World) (h : IsCode w a len cap) :
    Calls Tryz.prog 7 #[.slice a len cap] w fun e w' => ∃ (ac ar : Option Addr) (cc cr : Nat) (t : T), e = .returned (.agg #[.slice ac t.cols.length cc, .int .i64 t.head, .int .i64 t.foot, .slice ar t.rows.length cr, .int .i64 t.gap]) ∧ Drawn t ∧
      ColsAt w' w.heap.size (.slice ac t.cols.length cc) t.cols ∧ RowsAt w' w.heap.size (.slice ar t.rows.length cr) t.rows ∧ Below w.heap.size w w' := by
  have K0 := k_alloc (Below.refl w.heap.size w) (.cells #[.slice none 0 0, .int .i64 0, .int .i64 0, .slice none 0 0, .int .i64 0] 26)
  have HC := Hid.intro (h.kept K0)
  have X0 := newestB w (.cells #[.slice none 0 0, .int .i64 0, .int .i64 0, .slice none 0 0, .int .i64 0] 26)
  clear h
  have hsz : (w.alloc (.cells #[.slice none 0 0, .int .i64 0, .int .i64 0, .slice none 0 0, .int .i64 0] 26)).heap.size = w.heap.size + 1 := by simp
  go_enter Tryz.func7, Tryz.ntmps7
  go_wp2_with fail
  refine (open_any _ _ _ _ HC.out).mono ?_
  rintro e w1 ⟨rfl, hR1, hb1⟩
  rw [hsz] at hR1 hb1
  have X1 := (hb1.block w.heap.size (by omega)).trans X0
  have K1 := k_trans K0 (by rw [hsz]; exact hb1)
  have hz1 := hR1.lt
  go_wp2_with fail
  refine (l20AnyTable_any (w.heap.size + 1) 0 16 (by omega) _ hR1 (by omega)).mono ?_
  rintro e w2 ⟨ac, ar, cc, cr, t, rfl, hD, hC2, hW2, hR2, hb2⟩
  have X2 := (hb2.block w.heap.size (by omega) (by omega)).trans X1
  have K2 := K1.trans (hb2.below (by omega) (by omega))
  have hz2 : w.heap.size + 1 < w2.heap.size := hR2.lt
  have hw1 : w.heap.size + 2 ≤ w1.heap.size := by omega
  have HC3 := Hid.intro ((hC2.base hw1).since (Since.st5 (z := w.heap.size + 2) (g := w.heap.size) (by omega) (.slice ac t.cols.length cc) (.int .i64 t.head) (.int .i64 t.foot) (.slice ar t.rows.length cr) (.int .i64 t.gap)))
  have HW3 := Hid.intro ((hW2.base hw1).since (Since.st5 (z := w.heap.size + 2) (g := w.heap.size) (by omega) (.slice ac t.cols.length cc) (.int .i64 t.head) (.int .i64 t.foot) (.slice ar t.rows.length cr) (.int .i64 t.gap)))
  have K3 := Hid.intro (K2.trans ((st5_bk w2 w.heap.size (.slice ac t.cols.length cc) (.int .i64 t.head) (.int .i64 t.foot) (.slice ar t.rows.length cr) (.int .i64 t.gap)).below (by omega) (Nat.le_refl _)))
  have HD := Hid.intro hD
  obtain ⟨⟨x0, x1, x2, x3, x4⟩, y0, y1, y2, y3, y4⟩ := fiveZ X2
  clear hC2 hW2 hR2 hb2 X2 X1 X0 K0 K1 K2 hD HC hR1 hb1
  go_wp2
  exact bodyPost_ret (v := .agg #[.slice ac t.cols.length cc, .int .i64 t.head, .int .i64 t.foot, .slice ar t.rows.length cr, .int .i64 t.gap]) (by simp [results, Tryz.results7, go_sem, x0, x1, x2, x3, x4]) rfl ⟨ac, ar, cc, cr, t, rfl, HD.out, HC3.out.base (by omega), HW3.out.base (by omega), K3.out⟩
end Go.Proofs.YtfkkhfiiokhnaaeGreat
namespace Go.Proofs.YtfkkhfiiokhnaaeGreat
open Go.RowKit

set_option maxRecDepth 100000 in
set_option maxHeartbeats 1000000 in
theorem pwInts_any (v1 v2 : Value) (l : List Int) (w : World) (h1 : IntsAt w v1 l) (h2 : IntsAt w v2 l) :
    Calls Tryz.prog 16 #[v1, v2] w fun e w' => e = .returned (.bool true) ∧ ∃ n, w' = w.drewN n := by
  obtain ⟨a1, cap1, rfl, hlen⟩ := h1.form
  obtain ⟨a2, cap2, rfl, _⟩ := h2.form
  have hne : ((l.length : Int) != (l.length : Int)) = false := by simp
  have H1 := Hid.intro h1
  have H2 := Hid.intro h2
  clear h1 h2
  go_enter Tryz.func16, Tryz.ntmps16
  go_wp2_with fail
  go_loopw [5] (fun i W => ∃ k n : Nat, k ≤ l.length ∧ i = .int .i64 k ∧ W = w.drewN n) (fun i _ => l.length - (intOf i).toNat)
  case atStart => exact ⟨0, 0, Nat.zero_le _, rfl, rfl⟩
  case round =>
    obtain ⟨k, nd, hk, rfl, rfl⟩ := hrel
    by_cases hlt : k < l.length
    · obtain ⟨b1, off1, cap1', e1, hc11, hc12, hbl1, x0⟩ := H1.out.get hlt
      simp only [Value.slice.injEq, true_and] at e1
      obtain ⟨rfl, rfl⟩ := e1
      obtain ⟨b2, off2, cap2', e2, hc21, hc22, hbl2, y0⟩ := H2.out.get hlt
      simp only [Value.slice.injEq, true_and] at e2
      obtain ⟨rfl, rfl⟩ := e2
      unfold maxLen at hc12 hc22
      generalize l.getD k 0 = x at x0 y0
      have hxx : (x != x) = false := by simp
      go_wp2_with fail
      go_quiet (fail)
      go_wp2
      go_roundw
      case rel => exact ⟨k + 1, nd + nq, by omega, by go_num, rfl⟩
      case measure => simp [intOf]; omega
    · go_wp2
      go_ret
      exact ⟨rfl, nd, rfl⟩
end Go.Proofs.YtfkkhfiiokhnaaeGreat
namespace Go.Proofs.YtfkkhfiiokhnaaeGreat
open Go.RowKit

set_option maxRecDepth 100000 in
set_option maxHeartbeats 1000000 in
theorem lawspwSum_any (v : Value) (l : List Int) (hl : l.length ≤ 1000) (hw : l.all wtB = true) (w : World) (h : IntsAt w v l) :
    Calls Tryz.prog 12 #[v] w fun e w' => e = .returned (.int .i64 l.sum) ∧ w' = w := by
  obtain ⟨a, cap, rfl, _⟩ := h.form
  have H := Hid.intro h
  have HW := Hid.intro (sumTo_bound hw)
  have HG := Hid.intro (fun i hi => wt_get (i := i) hw hi)
  clear h hw
  go_enter Tryz.func12, Tryz.ntmps12
  go_wp2_with fail
  go_loop [3, 4] (fun s i => ∃ k : Nat, k ≤ l.length ∧ i = .int .i64 k ∧ s = .int .i64 (sumTo l k)) (fun _ i => l.length - (intOf i).toNat)
  case atStart => exact ⟨0, Nat.zero_le _, rfl, by simp [sumTo]⟩
  case round =>
    obtain ⟨k, hk, rfl, rfl⟩ := hrel
    by_cases hlt : k < l.length
    · obtain ⟨b, off, cap', e', hc1, hc2, hbl, hx⟩ := H.out.get hlt
      simp only [Value.slice.injEq, true_and] at e'
      obtain ⟨rfl, rfl⟩ := e'
      have hb1 := HW.out k hk
      have hb2 := HG.out k hlt
      have HS := Hid.intro (sumTo_succ hlt)
      generalize l.getD k 0 = x at hx HS hb2
      generalize sumTo l k = s at HS hb1
      unfold maxLen at hc2
      go_wp2
      go_round
      case rel => exact ⟨k + 1, by omega, by go_num, by rw [HS.out]⟩
      case measure => simp [intOf]; omega
    · obtain rfl : k = l.length := by omega
      have HE := Hid.intro (sumTo_all l)
      go_wp2
      go_ret
      exact ⟨by rw [← HE.out]; rfl, rfl⟩
end Go.Proofs.YtfkkhfiiokhnaaeGreat
namespace Go.Proofs.YtfkkhfiiokhnaaeGreat
open Go.RowKit

theorem abcOk : txtOkB ⟨#[97, 98, 32, 99]⟩ = true := by decide +kernel
theorem pwOk_any (w : World) : Calls Tryz.prog 11 #[] w fun e w' => e = .returned (.bool true) ∧ w' = w := by
  go_enter Tryz.func11, Tryz.ntmps11
  go_wp2_with fail
  refine (implTxtOk _ _ (by unfold maxLen; decide)).mono ?_
  rw [abcOk]
  rintro e w1 ⟨rfl, rfl⟩
  go_wp2
  go_ret
  exact ⟨rfl, rfl⟩
end Go.Proofs.YtfkkhfiiokhnaaeGreat
