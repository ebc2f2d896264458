/-
  PROVED HERE: lists of numbers in memory, read (IntsAt) or in a block of their own (RowI), for the other texts of this claim. Also: a code that lies in memory stays where it is; a table abides five stores ahead of it: for the texts that draw a table. Also: DrawBrdAcross draws a table and a slot; nothing that was in memory is turned. Also: a region that draws its order, whose first operations only read (their callees turn nothing that was in memory), and whose next one waits for all of them: the first ones may be walked once, in the text's order; what follows is walked in every order. Also: the laws' own pwOk says true; nothing in memory is turned.
-/
import Derived.Test.YtfkkhfiiokhnaagB4
import Derived.Test.YtfkkhfiiokhnaagB16
import Derived.Test.YtfkkhfiiokhnaagB22
import Derived.Test.YtfkkhfiiokhnaagB6
import Derived.Laws.AppendOwn
namespace Go.Proofs.Ytfkkhfiiokhnaag
open Go.RowKit

/-- a list of numbers that can be read -/
def IntsAt (w : World) (v : Value) (l : List Int) : Prop :=
  ∃ (a : Option Addr) (cap : Nat), v = .slice a l.length cap ∧ l.length ≤ cap ∧ cap ≤ maxLen ∧ ∀ i, i < l.length → ∃ b off, a = some ⟨b, off, none⟩ ∧ b < w.heap.size ∧ w.cell? ⟨b, off + i, none⟩ = some (.int .i64 (l.getD i 0))
theorem IntsAt.form {w : World} {v : Value} {l : List Int} (h : IntsAt w v l) : ∃ a cap, v = .slice a l.length cap ∧ l.length ≤ 9223372036854775807 := by
  obtain ⟨a, cap, hv, h1, h2, _⟩ := h
  unfold maxLen at h2
  exact ⟨a, cap, hv, by omega⟩
theorem IntsAt.get {w : World} {v : Value} {l : List Int} (h : IntsAt w v l) {i : Nat} (hi : i < l.length) :
    ∃ b off cap, v = .slice (some ⟨b, off, none⟩) l.length cap ∧ l.length ≤ cap ∧ cap ≤ maxLen ∧ b < w.heap.size ∧ w.cell? ⟨b, off + i, none⟩ = some (.int .i64 (l.getD i 0)) := by
  obtain ⟨a, cap, hv, h1, h2, h3⟩ := h
  obtain ⟨b, off, rfl, h4, h5⟩ := h3 i hi
  exact ⟨b, off, cap, hv, h1, h2, h4, h5⟩
theorem IntsAt.kept {w w' : World} {v : Value} {l : List Int} (h : IntsAt w v l) (k : Below w.heap.size w w') : IntsAt w' v l := by
  obtain ⟨a, cap, hv, h1, h2, h3⟩ := h
  refine ⟨a, cap, hv, h1, h2, fun i hi => ?_⟩
  obtain ⟨b, off, h4, h5, h6⟩ := h3 i hi
  exact ⟨b, off, h4, Nat.lt_of_lt_of_le h5 k.size, (k.cell (p := ⟨b, off + i, none⟩) h5).trans h6⟩

/-- a list of numbers in a block of its own, at B or behind it, ahead of D -/
def RowI (w : World) (B D : Nat) (v : Value) (l : List Int) : Prop :=
  (v = .slice none 0 0 ∧ l = []) ∨ ∃ g cap cur, v = .slice (some ⟨g, 0, none⟩) l.length cap ∧ B ≤ g ∧ g < D ∧ w.heap[g]? = some (.cells cur 3 (0, 0)) ∧ l.length ≤ cap ∧ cap ≤ maxLen ∧ cur.size = cap ∧ ∀ i, i < l.length → cur[i]? = some (.int .i64 (l.getD i 0))
theorem RowI.of_owns {w : World} {B : Nat} {v : Value} {l : List Int} (h : w.ownsRow B 3 1 v l.length (l.map (Value.int .i64))) : RowI w B w.heap.size v l := by
  rcases h.2 with ⟨hv, h0⟩ | ⟨g, cap, cur, hv, hb, hg, h1, h2, h3, h4⟩
  · exact .inl ⟨hv, List.eq_nil_of_length_eq_zero h0⟩
  · refine .inr ⟨g, cap, cur, hv, hb, (Array.getElem?_eq_some_iff.1 hg).1, hg, h1, h2, by omega, fun i hi => ?_⟩
    have : cur.toList[i]? = (l.map (Value.int .i64))[i]? := by rw [← h4, List.getElem?_take_of_lt (by omega)]
    rw [← Array.getElem?_toList, this]
    simp [List.getD, hi]
theorem RowI.owns {w : World} {B D : Nat} {v : Value} {l : List Int} (h : RowI w B D v l) : w.ownsRow B 3 1 v l.length (l.map (Value.int .i64)) := by
  refine ⟨by simp, ?_⟩
  rcases h with ⟨hv, rfl⟩ | ⟨g, cap, cur, hv, hb, hd, hg, h1, h2, h3, h4⟩
  · exact .inl ⟨hv, rfl⟩
  · refine .inr ⟨g, cap, cur, hv, hb, hg, h1, h2, by omega, ?_⟩
    apply List.ext_getElem?
    intro i
    by_cases hi : i < l.length
    · rw [List.getElem?_take_of_lt (by omega), Array.getElem?_toList, h4 i hi]
      simp [List.getD, hi]
    · rw [List.getElem?_eq_none (by simp; omega), List.getElem?_eq_none (by simp; omega)]
theorem RowI.at {w : World} {B D : Nat} {v : Value} {l : List Int} (h : RowI w B D v l) : IntsAt w v l := by
  rcases h with ⟨rfl, rfl⟩ | ⟨g, cap, cur, hv, hb, hd, hg, h1, h2, h3, h4⟩
  · exact ⟨none, 0, rfl, Nat.le_refl _, Nat.zero_le _, fun i hi => absurd hi (Nat.not_lt_zero _)⟩
  · exact ⟨_, cap, hv, h1, h2, fun i hi => ⟨g, 0, rfl, (Array.getElem?_eq_some_iff.1 hg).1, by rw [Nat.zero_add]; exact (cellB hg).trans (h4 i hi)⟩⟩
theorem RowI.kept {w w' : World} {B D : Nat} {v : Value} {l : List Int} (h : RowI w B D v l) (k : ∀ j, j < w.heap.size → B ≤ j → j < D → w'.heap[j]? = w.heap[j]?) : RowI w' B D v l := by
  rcases h with h | ⟨g, cap, cur, hv, hb, hd, hg, r⟩
  · exact .inl h
  · exact .inr ⟨g, cap, cur, hv, hb, hd, (k g (Array.getElem?_eq_some_iff.1 hg).1 hb hd).trans hg, r⟩
theorem RowI.below {w w' : World} {B D C : Nat} {v : Value} {l : List Int} (h : RowI w B D v l) (k : Below C w w') (hC : D ≤ C) : RowI w' B D v l :=
  h.kept (fun j _ _ h2 => k.block j (Nat.lt_of_lt_of_le h2 hC))
theorem RowI.base {w : World} {B B' D D' : Nat} {v : Value} {l : List Int} (h : RowI w B D v l) (hB : B' ≤ B) (hD : D ≤ D') : RowI w B' D' v l := by
  rcases h with h | ⟨g, cap, cur, hv, hb, hd, r⟩
  · exact .inl h
  · exact .inr ⟨g, cap, cur, hv, Nat.le_trans hB hb, Nat.lt_of_lt_of_le hd hD, r⟩
theorem RowI.form {w : World} {B D : Nat} {v : Value} {l : List Int} (h : RowI w B D v l) : ∃ a cap, v = .slice a l.length cap := by
  rcases h with ⟨rfl, rfl⟩ | ⟨g, cap, cur, hv, _⟩
  · exact ⟨none, 0, rfl⟩
  · exact ⟨_, _, hv⟩
theorem RowI.get {w : World} {B D : Nat} {v : Value} {l : List Int} (h : RowI w B D v l) {i : Nat} (hi : i < l.length) :
    ∃ g cap, v = .slice (some ⟨g, 0, none⟩) l.length cap ∧ B ≤ g ∧ g < D ∧ g < w.heap.size ∧ l.length ≤ cap ∧ cap ≤ maxLen ∧ w.cell? ⟨g, i, none⟩ = some (.int .i64 (l.getD i 0)) ∧ w.frozen? ⟨g, i, none⟩ = false := by
  rcases h with ⟨_, rfl⟩ | ⟨g, cap, cur, hv, hb, hd, hg, h1, h2, h3, h4⟩
  · cases hi
  · exact ⟨g, cap, hv, hb, hd, (Array.getElem?_eq_some_iff.1 hg).1, h1, h2, (cellB hg).trans (h4 i hi), freeB hg⟩
theorem RowI.set {w : World} {B D g cap n : Nat} {l : List Int} (h : RowI w B D (.slice (some ⟨g, 0, none⟩) n cap) l) {i : Nat} (hi : i < l.length) (x : Int) : RowI (w.setCell ⟨g, i, none⟩ (.int .i64 x)) B D (.slice (some ⟨g, 0, none⟩) n cap) (l.set i x) := by
  rcases h with ⟨hv, _⟩ | ⟨g', cap', cur, hv, hb, hd, hg, h1, h2, h3, h4⟩
  · simp at hv
  · simp only [Value.slice.injEq, Option.some.injEq, Addr.mk.injEq, and_true] at hv
    obtain ⟨rfl, rfl, rfl⟩ := hv
    refine .inr ⟨g, cap, cur.setIfInBounds i (.int .i64 x), by simp, hb, hd, setB hg _, by simpa using h1, h2, by simpa using h3, fun j hj => ?_⟩
    rw [List.length_set] at hj
    by_cases e : i = j
    · subst e
      simp [List.getD, hj, show i < cur.size by omega]
    · rw [Array.getElem?_setIfInBounds_ne e, h4 j hj]
      simp [List.getD, e]
/-- what lies ahead of B, or at D and behind it, is as it was -/
structure Out (B D : Nat) (w w' : World) : Prop where
  below : Below B w w'
  block : ∀ k, D ≤ k → k < w.heap.size → w'.heap[k]? = w.heap[k]?
theorem Out.refl (B D : Nat) (w : World) : Out B D w w := ⟨Below.refl _ _, fun _ _ _ => rfl⟩
theorem Out.set {B D : Nat} {a w : World} (h : Out B D a w) {p : Addr} (h1 : B ≤ p.block) (h2 : p.block < D) (v : Value) : Out B D a (w.setCell p v) :=
  ⟨h.below.setCell h1 v, fun k h3 h4 => (Below.heap_setCell _ _ _ _ (by omega)).trans (h.block k h3 h4)⟩
theorem Out.drewN {B D : Nat} {a w : World} (h : Out B D a w) (n : Nat) : Out B D a (w.drewN n) := ⟨⟨h.below.os, h.below.tape, h.below.output, h.below.size, h.below.block⟩, h.block⟩
theorem RowI.out {w w' : World} {B D B' D' : Nat} {v : Value} {l : List Int} (h : RowI w B D v l) (k : Out B' D' w w') (hd : D ≤ B' ∨ D' ≤ B) : RowI w' B D v l :=
  h.kept (fun j h0 h1 h2 => by rcases hd with hd | hd; exact k.below.block j (by omega); exact k.block j (by omega) h0)
end Go.Proofs.Ytfkkhfiiokhnaag
namespace Go.Proofs.Ytfkkhfiiokhnaag
open Go.RowKit

theorem IsCode.kept {w w' : World} {a : Option Addr} {len cap : Nat} (h : IsCode w a len cap) (hb : Below w.heap.size w w') : IsCode w' a len cap := by
  obtain ⟨h1, h2, hc⟩ := h
  refine ⟨h1, h2, fun i hi => ?_⟩
  obtain ⟨b, off, z, e, l, c, z0, z1⟩ := hc i hi
  exact ⟨b, off, z, e, Nat.lt_of_lt_of_le l hb.size, (hb.cell (p := ⟨b, off + i, none⟩) l).trans c, z0, z1⟩
/-- a table that lies in memory abides five stores into a block that was there ahead of it -/
theorem Since.st5 {w : World} {z g : Nat} (hg : g < z) (y0 y1 y2 y3 y4 : Value) : Since z w (st5 w g y0 y1 y2 y3 y4) := ⟨(st5_bk w g y0 y1 y2 y3 y4).size, fun k hk hl => (st5_bk w g y0 y1 y2 y3 y4).block k hl (by omega)⟩

end Go.Proofs.Ytfkkhfiiokhnaag
namespace Go.Proofs.Ytfkkhfiiokhnaag
open Go.RowKit

set_option maxRecDepth 100000 in
set_option maxHeartbeats 1000000 in
theorem drawBrdAcross_any (a : Option Addr) (len cap : Nat) (w : World) (h : IsCode w a len cap) :
    Calls Try.prog 22 #[.slice a len cap] w fun e w' => ∃ (ac ar : Option Addr) (cc cr : Nat) (t : T) (r c : Int), e = .returned (.tuple #[.agg #[.slice ac t.cols.length cc, .int .i64 t.head, .int .i64 t.foot, .slice ar t.rows.length cr, .int .i64 t.gap], .int .i64 r, .int .i64 c]) ∧ (-1 ≤ r ∧ r ≤ 8) ∧ (-1 ≤ c ∧ c ≤ 8) ∧ Drawn t ∧
      ColsAt w' w.heap.size (.slice ac t.cols.length cc) t.cols ∧ RowsAt w' w.heap.size (.slice ar t.rows.length cr) t.rows ∧ Below w.heap.size w w' := by
  have K0 := k_alloc (Below.refl w.heap.size w) (.cells #[.slice none 0 0, .int .i64 0, .int .i64 0, .slice none 0 0, .int .i64 0] 49)
  have HC := Hid.intro (h.kept K0)
  have X0 := newestB w (.cells #[.slice none 0 0, .int .i64 0, .int .i64 0, .slice none 0 0, .int .i64 0] 49)
  clear h
  have hsz : (w.alloc (.cells #[.slice none 0 0, .int .i64 0, .int .i64 0, .slice none 0 0, .int .i64 0] 49)).heap.size = w.heap.size + 1 := by simp
  go_enter Try.func22, Try.ntmps22
  go_wp2_with fail
  refine (open_any _ _ _ _ HC.out).mono ?_
  rintro e w1 ⟨rfl, hR1, hb1⟩
  rw [hsz] at hR1 hb1
  have X1 := (hb1.block w.heap.size (by omega)).trans X0
  have K1 := k_trans K0 (by rw [hsz]; exact hb1)
  have hz1 := hR1.lt
  go_wp2_with fail
  refine (l20AnyTable_any (w.heap.size + 1) 0 16 (by omega) _ hR1 (by omega)).mono ?_
  rintro e wa ⟨ac, ar, cc, cr, t, rfl, hD, hCa, hWa, hRa, hba⟩
  have hza := hRa.lt
  have HCa := Hid.intro hCa
  have HWa := Hid.intro hWa
  have HD := Hid.intro hD
  clear hCa hWa hD
  go_wp2_with fail
  refine (pick_any _ _ _ _ hRa (by omega)).mono ?_
  rintro e wc ⟨r, rfl, hr, hRc, hbc⟩
  obtain ⟨hr0, hr1⟩ := hr (by omega)
  go_wp2_with fail
  refine (pick_any _ _ _ _ hRc (by omega)).mono ?_
  rintro e w2 ⟨c, rfl, hc, hR2, hbd⟩
  obtain ⟨hc0, hc1⟩ := hc (by omega)
  have hb2 := (hba.trans hbc).trans hbd
  have hb3 := hbc.trans hbd
  have hC2 := HCa.out.since ⟨hb3.size, fun q h1 h2 => hb3.block q h2 (by omega)⟩
  have hW2 := HWa.out.since ⟨hb3.size, fun q h1 h2 => hb3.block q h2 (by omega)⟩
  have X2 := (hb2.block w.heap.size (by omega) (by omega)).trans X1
  have K2 := K1.trans (hb2.below (by omega) (by omega))
  have hz2 : w.heap.size + 1 < w2.heap.size := hR2.lt
  have hw1 : w.heap.size + 2 ≤ w1.heap.size := by omega
  have HC3 := Hid.intro ((hC2.base hw1).since (Since.st5 (z := w.heap.size + 2) (g := w.heap.size) (by omega) (.slice ac t.cols.length cc) (.int .i64 t.head) (.int .i64 t.foot) (.slice ar t.rows.length cr) (.int .i64 t.gap)))
  have HW3 := Hid.intro ((hW2.base hw1).since (Since.st5 (z := w.heap.size + 2) (g := w.heap.size) (by omega) (.slice ac t.cols.length cc) (.int .i64 t.head) (.int .i64 t.foot) (.slice ar t.rows.length cr) (.int .i64 t.gap)))
  have K3 := Hid.intro (K2.trans ((st5_bk w2 w.heap.size (.slice ac t.cols.length cc) (.int .i64 t.head) (.int .i64 t.foot) (.slice ar t.rows.length cr) (.int .i64 t.gap)).below (by omega) (Nat.le_refl _)))
  obtain ⟨⟨x0, x1, x2, x3, x4⟩, y0, y1, y2, y3, y4⟩ := fiveZ X2
  clear hC2 hW2 hR2 hb2 X2 X1 X0 K0 K1 K2 HC hR1 hb1 hba hbc hbd hb3 hRa hRc hr hc HCa HWa
  go_wp2
  exact bodyPost_ret (v := .tuple #[.agg #[.slice ac t.cols.length cc, .int .i64 t.head, .int .i64 t.foot, .slice ar t.rows.length cr, .int .i64 t.gap], .int .i64 (r - 1), .int .i64 (c - 1)]) (by simp [results, Try.results22, go_sem, x0, x1, x2, x3, x4]) rfl ⟨ac, ar, cc, cr, t, r - 1, c - 1, rfl, by omega, by omega, HD.out, HC3.out.base (by omega), HW3.out.base (by omega), K3.out⟩
end Go.Proofs.Ytfkkhfiiokhnaag
namespace Go.Proofs.Ytfkkhfiiokhnaag
open Go.RowKit

section
variable {P : Program} {ops : Array Oper} {C : World → Prop}
/-- the first k operations have come up -/
def listedTo (n : Nat) : Nat → Array Bool
  | 0 => Array.replicate n false
  | k + 1 => (listedTo n k).setIfInBounds k true
def wpAnyT (P : Program) (ops : Array Oper) (C : World → Prop) (Q : Exit → Act → World → Prop) (z : Nat) : Nat → Array Bool → Act → Prop
  | 0, _, _ => False
  | fuel + 1, listed, a => Region.ready .any ops listed ≠ [] ∧ ∀ i ∈ Region.ready .any ops listed, if i = z then (∀ w, C w → wpOp P ops Q z (wpAny P .any ops Q fuel (listed.setIfInBounds z true)) a w) else qOp P ops C i (wpAnyT P ops C Q z fuel (listed.setIfInBounds i true)) a
theorem wpAny_of_T {Q : Exit → Act → World → Prop} {z : Nat} : ∀ (fuel : Nat) (listed : Array Bool) (a : Act) (w : World), C w → wpAnyT P ops C Q z fuel listed a → wpAny P .any ops Q fuel listed a w
  | 0, _, _, _, _, h => h.elim
  | fuel + 1, listed, a, w, hw, h => ⟨fun h0 => absurd h0 h.1, fun i hi => by
      have h2 := h.2 i hi
      by_cases hz : i = z
      · rw [if_pos hz] at h2
        subst hz
        exact h2 w hw
      · rw [if_neg hz] at h2
        exact wpOp_of_qOp hw (fun a' w' hw' => wpAny_of_T fuel _ a' w' hw') h2⟩
theorem wpAnyT_first {Q : Exit → Act → World → Prop} {z i : Nat} {oi : Oper} {v : Value} (hs : succB ops z = true) (hi : ops[i]? = some oi) (hiz : i < z) (hsel : ∀ (j : Nat) (o : Oper) cs b, ops[j]? = some o → o.op ≠ .select cs b) :
    ∀ (fuel : Nat) (listed : Array Bool) (a : Act), Closed ops (fun k => listed.getD k false) →
      (∀ j oj, ops[j]? = some oj → j ≠ i → listed.getD j true = false → (∀ e ∈ oj.after, Region.binds .any e = true → e.on ≠ i) → oi.apart ops oj = true) →
      i ∈ Region.ready .any ops listed → YieldsIn P ops C oi v a →
      wpAnyT P ops C Q z fuel (listed.setIfInBounds i true) (a.put oi.dst v) → wpAnyT P ops C Q z (fuel + 1) listed a := by
  intro fuel
  induction fuel with
  | zero => intro listed a _ _ _ _ H; exact H.elim
  | succ fuel ih =>
    intro listed a hcl hfree hr hy H
    refine ⟨fun h => (by rw [h] at hr; cases hr), fun j hj => ?_⟩
    by_cases hji : j = i
    · rw [if_neg (by omega)]; subst hji; exact hy.qOp hi H
    · have hjz : j ≠ z := fun e => by
        subst e
        obtain ⟨_, o, ho, ha⟩ := mem_ready.1 hj
        have h1 := all_ahead hs hcl ho ha _ i (Nat.le_refl _) hiz
        have h0 := (mem_ready.1 hr).1
        rcases Nat.lt_or_ge i listed.size with h' | h'
        · simp [h'] at h0 h1; rw [h0] at h1; cases h1
        · simp [Array.getElem?_eq_none h'] at h1
      rw [if_neg hjz]
      have h1 := H.2 j (ready_mono hj hji)
      rw [if_neg hjz] at h1
      obtain ⟨hjun, oj, hoj, hall⟩ := mem_ready.1 hj
      have hnot : ∀ e ∈ oj.after, Region.binds .any e = true → e.on ≠ i := fun e he hb heq => by
        have h1 := hall e he hb
        have h0 := (mem_ready.1 hr).1
        rw [heq] at h1
        rcases Nat.lt_or_ge i listed.size with h' | h'
        · simp [h'] at h0 h1; rw [h0] at h1; cases h1
        · simp [Array.getElem?_eq_none h'] at h1
      have h2 := qOp_put hoj (hfree j oj hoj hji hjun hnot) (fun cs b => hsel i oi cs b hi) (fun cs b => hsel j oj cs b hoj) hy h1
      have hfree' : ∀ k ok, ops[k]? = some ok → k ≠ i → (listed.setIfInBounds j true).getD k true = false →
          (∀ e ∈ ok.after, Region.binds .any e = true → e.on ≠ i) → oi.apart ops ok = true := fun k ok hk hki hun hno => by
        refine hfree k ok hk hki ?_ hno
        by_cases hjk : j = k
        · subst hjk; exact hjun
        · rw [getD_set_ne true hjk] at hun; exact hun
      refine qOp_mono (fun a' h3 => ih (listed.setIfInBounds j true) a' (closed_set hcl hj) hfree' (ready_mono hr (Ne.symm hji)) h3.1 ?_) h2
      rw [Array.setIfInBounds_comm _ _ hji]
      exact h3.2
theorem wpAnyT_lex {Q : Exit → Act → World → Prop} {n z f : Nat} (hns : Region.noSelect ops = true) (hs : succB ops z = true) (hz : Region.ready .any ops (listedTo n z) = [z]) : ∀ (l : List Oper) (k : Nat) (a : Act), k + l.length = z → (∀ j, j < l.length → l[j]? = ops[k + j]?) → Closed ops (fun j => (listedTo n k).getD j false) →
    Region.lexFrom .any ops (l.length + (f + 1)) k (listedTo n k) = true → wpQuiet P ops C (fun a' => ∀ w', C w' → wpOp P ops Q z (wpAny P .any ops Q f (listedTo n (z + 1))) a' w') l a → wpAnyT P ops C Q z (l.length + (f + 1)) (listedTo n k) a
  | [], k, a, hk, _, _, _, h => by
    have hk' : k = z := by simpa using hk
    subst hk'
    rw [List.length_nil, Nat.zero_add]
    refine ⟨by rw [hz]; simp, fun i hi => ?_⟩
    rw [hz] at hi
    have hik : i = k := by simpa using hi
    rw [if_pos hik]
    exact h
  | o :: l, k, a, hk, hl, hcl, hB, h => by
    have h0 : ops[k]? = some o := by simpa using (hl 0 (by simp)).symm
    simp only [List.length_cons] at hk hB ⊢
    rw [show l.length + 1 + (f + 1) = (l.length + (f + 1)) + 1 by omega] at hB ⊢
    rw [Region.lexFrom] at hB
    simp only [Bool.and_eq_true] at hB
    obtain ⟨⟨hr, hf⟩, hB'⟩ := hB
    have hr' : k ∈ Region.ready .any ops (listedTo n k) := by simpa using hr
    have hst : qOp P ops C k (wpQuiet P ops C (fun a' => ∀ w', C w' → wpOp P ops Q z (wpAny P .any ops Q f (listedTo n (z + 1))) a' w') l) a := by unfold qOp; simp only [h0]; exact h
    obtain ⟨v, hy, hK⟩ := yieldsIn_of_qOp h0 hst
    exact wpAnyT_first hs h0 (by omega) (Region.noSelect_spec hns) (l.length + (f + 1)) (listedTo n k) a hcl (Region.free_spec h0 hf) hr' hy
      (wpAnyT_lex hns hs hz l (k + 1) _ (by omega) (fun j hj => by have := hl (j + 1) (by simpa using hj); simpa [Nat.add_assoc, Nat.add_comm 1 j] using this) (closed_set hcl hr') hB' hK)
end
/-- the walk: what only reads in the text's order, then the rest -/
theorem wp_region_tail {P : Program} {id : Nat} {Q : Exit → Act → World → Prop} {a : Act} {w : World} {l : List Oper} (n f : Nat) {o : Oper} (hm : P.follows .mixedOrders = true) (hl : l.length = n + (f + 1)) (ho : l[n]? = some o) (hB : Region.lexB .any l.toArray = true) (hs : succB l.toArray n = true) (hz : Region.ready .any l.toArray (listedTo (n + (f + 1)) n) = [n])
    (h : wpQuiet P l.toArray (fun w' => ∃ p : BW w, w' = p.u) (fun a' => ∀ w', (∃ p : BW w, w' = p.u) → if Region.wanted o (yielded l.toArray a'.tmps) = true then o.wp P a' w' (wpAny P .any l.toArray Q f (listedTo (n + (f + 1)) (n + 1))) Q else wpAny P .any l.toArray Q f (listedTo (n + (f + 1)) (n + 1)) (a'.put o.dst undef) w') (l.take n) a) : (Code.region id l.toArray true).wp P Q a w := by
  simp only [Region.lexB, Bool.and_eq_true] at hB
  have hlt : (l.take n).length = n := by rw [List.length_take]; omega
  refine wp_region_any hm (wpAny_of_T (C := fun w' => ∃ p : BW w, w' = p.u) (z := n) _ _ _ _ ⟨⟨_, k_drew (Below.refl _ _)⟩, rfl⟩ ?_)
  have hcv : ∀ a', (∀ w', (∃ p : BW w, w' = p.u) → if Region.wanted o (yielded l.toArray a'.tmps) = true then o.wp P a' w' (wpAny P .any l.toArray Q f (listedTo (n + (f + 1)) (n + 1))) Q else wpAny P .any l.toArray Q f (listedTo (n + (f + 1)) (n + 1)) (a'.put o.dst undef) w') → ∀ w', (∃ p : BW w, w' = p.u) → wpOp P l.toArray Q n (wpAny P .any l.toArray Q f (listedTo (n + (f + 1)) (n + 1))) a' w' := by
    intro a' hR w' hw'
    have h1 := hR w' hw'
    unfold wpOp
    rw [show l.toArray[n]? = some o by simpa using ho]
    dsimp only
    split
    · rename_i hw; rw [if_pos hw] at h1; exact .inl h1
    · rename_i hw; rw [if_neg hw] at h1; exact h1
  have hmono : ∀ (q : List Oper) (b : Act), wpQuiet P l.toArray (fun w' => ∃ p : BW w, w' = p.u) (fun a' => ∀ w', (∃ p : BW w, w' = p.u) → if Region.wanted o (yielded l.toArray a'.tmps) = true then o.wp P a' w' (wpAny P .any l.toArray Q f (listedTo (n + (f + 1)) (n + 1))) Q else wpAny P .any l.toArray Q f (listedTo (n + (f + 1)) (n + 1)) (a'.put o.dst undef) w') q b → wpQuiet P l.toArray (fun w' => ∃ p : BW w, w' = p.u) (fun a' => ∀ w', (∃ p : BW w, w' = p.u) → wpOp P l.toArray Q n (wpAny P .any l.toArray Q f (listedTo (n + (f + 1)) (n + 1))) a' w') q b := by
    intro q
    induction q with
    | nil => intro b hb; exact hcv b hb
    | cons o q ih =>
      intro b hb
      simp only [wpQuiet] at hb ⊢
      split
      · rename_i hw; rw [if_pos hw] at hb; exact Oper.quiet_mono ih hb
      · rename_i hw; rw [if_neg hw] at hb; exact ih _ hb
  have := wpAnyT_lex (P := P) (Q := Q) (n := n + (f + 1)) (f := f) (C := fun w' => ∃ p : BW w, w' = p.u) hB.1 hs hz (l.take n) 0 a (by omega) (fun j hj => by rw [hlt] at hj; simp [hj]) (fun j i _ _ => by
    show (Array.replicate (n + (f + 1)) false).getD j false = false
    rw [Array.getD_eq_getD_getElem?, Array.getElem?_replicate]
    split <;> rfl) (by rw [hlt]; have h9 := hB.2; rw [show l.toArray.size = n + (f + 1) by simpa using hl] at h9; exact h9) (hmono _ _ h)
  rw [hlt] at this
  rw [show l.toArray.size = n + (f + 1) by simpa using hl]
  exact this
end Go.Proofs.Ytfkkhfiiokhnaag
namespace Go.Proofs.Ytfkkhfiiokhnaag
open Go.RowKit

theorem abcOk : txtOkB ⟨#[97, 98, 32, 99]⟩ = true := by decide +kernel
theorem pwOk_any (w : World) : Calls Try.prog 21 #[] w fun e w' => e = .returned (.bool true) ∧ w' = w := by
  go_enter Try.func21, Try.ntmps21
  go_wp2_with fail
  refine (implTxtOk _ _ (by unfold maxLen; decide)).mono ?_
  rw [abcOk]
  rintro e w1 ⟨rfl, rfl⟩
  go_wp2
  go_ret
  exact ⟨rfl, rfl⟩
end Go.Proofs.Ytfkkhfiiokhnaag
