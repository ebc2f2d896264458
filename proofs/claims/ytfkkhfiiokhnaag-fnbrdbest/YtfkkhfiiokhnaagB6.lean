/-
  PROVED HERE: the model's BrdBest answers the best of any borders in memory; nothing that was in memory is turned. Also: the best of borders is one of them, none beats it, and it beats all ahead of it. Also: what a grid is in memory, for the other texts of this claim: its cells, each in its place; it stays where what was in memory stays; the first cell of a kind. Also: what the program's within and the model's l1In answer at every argument: the Bool 'inB'; nothing that was in memory is turned. Also: what it is that a call owns the cells, the columns and the rows of a table: it stays where other blocks are turned; such a table lies in memory. Also: what a border that is ok is, as a Bool.
-/
import Derived.Test.YtfkkhfiiokhnaagB5
import Derived.Test.YtfkkhfiiokhnaagB4
import Derived.WalkLawsBesides
import Derived.WalkSpells
import Derived.Deep.DeepCutAuto
import Derived.WalkKit
import Derived.ProofKit
import Derived.Below
namespace Go.Proofs.Ytfkkhfiiokhnaag
open Go.RowKit

theorem more0 {w : World} {g : Nat} {o : Obj} (h : w.heap[g]? = some o) (q : Obj) : (w.alloc q).heap[g]? = some o := (Below.heap_alloc _ _ _ (Array.getElem?_eq_some_iff.1 h).1).trans h
set_option maxRecDepth 100000 in
set_option maxHeartbeats 1000000 in
theorem specBrdBest (v : Value) (l : List Fr) (hl : l.length ≤ 1000000) (w : World) {z : Nat} (h : FrsAt w z v l) :
    Calls Try.prog 20 #[v] w fun e w' => e = .returned (.agg #[.int .i64 (bestF l).s, .int .i64 (bestF l).w, .int .i64 (bestF l).c]) ∧ Below w.heap.size w w' := by
  have hmx : Try.prog.follows .mixedOrders = true := by kernel_rfl
  obtain ⟨a, cap, rfl, hlen⟩ := At.form h
  have HH := Hid.intro h
  have K2 := k_alloc (k_alloc (Below.refl w.heap.size w) (.cells #[.int .i64 0, .int .i64 0, .int .i64 0] 42)) (.cells #[.int .i64 0, .int .i64 0, .int .i64 (-1)] 42)
  have X0 := more0 (newestB w (.cells #[.int .i64 0, .int .i64 0, .int .i64 0] 42)) (.cells #[.int .i64 0, .int .i64 0, .int .i64 (-1)] 42)
  have X1 : ((w.alloc (.cells #[.int .i64 0, .int .i64 0, .int .i64 0] 42)).alloc (.cells #[.int .i64 0, .int .i64 0, .int .i64 (-1)] 42)).heap[w.heap.size + 1]? = some (.cells #[.int .i64 0, .int .i64 0, .int .i64 (-1)] 42) := by
    have := newestB (w.alloc (.cells #[.int .i64 0, .int .i64 0, .int .i64 0] 42)) (.cells #[.int .i64 0, .int .i64 0, .int .i64 (-1)] 42)
    simpa using this
  have HX := Hid.intro (And.intro X0 X1)
  have HK := Hid.intro K2
  have KB := Hid.intro (fun (W : World) (p : BW W) (x y z u : Int) => bw_of ((specBrdBeats x y z u p.u).mono (fun _ _ ⟨h1, h2⟩ => And.intro h1 (by rw [h2]; exact k_alloc (k_alloc (Below.refl _ _) _) _))))
  clear h K2 X0 X1
  go_enter Try.func20, Try.ntmps20
  go_wp2_with fail
  go_loopw [4] (fun s W => ∃ k : Nat, s = .int .i64 k ∧ k ≤ l.length ∧ Hid (W.heap[w.heap.size + 1]? = some (.cells #[.int .i64 (bestTo l k).s, .int .i64 (bestTo l k).w, .int .i64 (bestTo l k).c] 42)) ∧ Hid (W.heap[w.heap.size]? = some (.cells #[.int .i64 0, .int .i64 0, .int .i64 0] 42)) ∧ Hid (Below w.heap.size w W)) (fun s _ => l.length - (intOf s).toNat)
  case atStart => exact ⟨0, rfl, Nat.zero_le _, HX.out.2, HX.out.1, HK⟩
  case round =>
    clear HX HK
    obtain ⟨k, rfl, hk, HX, HZ, HK⟩ := hrel
    by_cases hlt : k < l.length
    case neg =>
      obtain rfl : k = l.length := by omega
      obtain ⟨⟨c0, c1, c2⟩, _⟩ := cells3 HX.out
      obtain ⟨⟨d0, d1, d2⟩, f0, f1, f2⟩ := cells3 HZ.out
      have HBl := Hid.intro (HK.out.trans ((st3_bk wr w.heap.size (.int .i64 (bestTo l l.length).s) (.int .i64 (bestTo l l.length).w) (.int .i64 (bestTo l l.length).c)).below HK.out.size (Nat.le_refl _)))
      have HE : Hid (bestF l = bestTo l l.length) := rfl
      generalize bestTo l l.length = y at *
      go_wp2
      exact bodyPost_ret (v := .agg #[.int .i64 y.s, .int .i64 y.w, .int .i64 y.c]) (by simp [results, Try.results20, go_sem, d0, d1, d2]) rfl ⟨by rw [HE.out], HBl.out⟩
    obtain ⟨b, off, cap', e', hc1, hc2, hbl, x0, x1, x2⟩ := At.get (HH.out.kept HK.out) hlt
    simp only [Value.slice.injEq, true_and] at e'
    obtain ⟨rfl, rfl⟩ := e'
    unfold maxLen at hc2
    have hwz : w.heap.size + 1 < wr.heap.size := (Array.getElem?_eq_some_iff.1 HX.out).1
    have HE0 : Hid (k = 0 → bestTo l (k + 1) = l.getD k dF) := fun h => by subst h; rw [bestTo, if_pos rfl]
    have HEy : Hid (k ≠ 0 → btF (l.getD k dF) (bestTo l k) = true → bestTo l (k + 1) = l.getD k dF) := fun h h2 => by rw [bestTo, if_neg h, if_pos h2]
    have HEn : Hid (k ≠ 0 → btF (l.getD k dF) (bestTo l k) = false → bestTo l (k + 1) = bestTo l k) := fun h h2 => by rw [bestTo, if_neg h, if_neg (by rw [h2]; simp)]
    generalize l.getD k dF = p at x0 x1 x2 HE0 HEy HEn
    generalize bestTo l k = y at HX HEy HEn
    have hne := bw_some wr
    have m0 := bw_cell hbl x0
    have m1 := bw_cell hbl x1
    have m2 := bw_cell (a := ⟨w.heap.size + 1, 0, none⟩) hwz (cellB (p := 0) HX.out)
    have m3 := bw_cell (a := ⟨w.heap.size + 1, 1, none⟩) hwz (cellB (p := 1) HX.out)
    have HPc := Hid.intro (And.intro hbl (And.intro x0 (And.intro x1 x2)))
    have HBt : Hid (btF p y = beatsB p.s p.w y.s y.w) := rfl
    clear x0 x1 x2
    go_upto_region 5 with fail
    refine wp_region_quiet_below hmx (by kernel_rfl) ?_
    by_cases hk0 : k = 0
    case pos =>
      subst hk0
      have HE := Hid.intro (HE0.out rfl)
      repeat (go_big_quiet_step (first | (go_at_call 16; refine KB.out _ _ _ _ _ _)))
      refine wpQuiet_nil ?_
      intro W5 hw'
      obtain ⟨⟨Wx, hW5⟩, hw''⟩ := hw'
      subst hw''
      clear m0 m1 m2 m3 hne
      have HX5 := (hW5.block _ hwz).trans HX.out
      have HZ5 := (hW5.block w.heap.size (by omega)).trans HZ.out
      have HK5 := k_trans HK.out hW5
      have x0 := (hW5.cell (p := ⟨b, _, none⟩) HPc.out.1).trans HPc.out.2.1
      have x1 := (hW5.cell (p := ⟨b, _, none⟩) HPc.out.1).trans HPc.out.2.2.1
      have x2 := (hW5.cell (p := ⟨b, _, none⟩) HPc.out.1).trans HPc.out.2.2.2
      simp only [Nat.zero_mul, Nat.add_zero] at x0 x1 x2
      obtain ⟨⟨c0, c1, c2⟩, f0, f1, f2⟩ := cells3 HX5
      have HX6 := Hid.intro (st3_is HX5 (.int .i64 p.s) (.int .i64 p.w) (.int .i64 p.c))
      have hbk := st3_bk W5 (w.heap.size + 1) (.int .i64 p.s) (.int .i64 p.w) (.int .i64 p.c)
      have HZ6 := Hid.intro ((hbk.block w.heap.size (Array.getElem?_eq_some_iff.1 HZ5).1 (by omega)).trans HZ5)
      have HK6 := Hid.intro (HK5.trans (hbk.below HK5.size (by omega)))
      clear hW5 HX HZ HK HX5 HZ5 HK5 hbk HPc
      go_wp2
      go_roundw
      case rel => exact ⟨0 + 1, by go_num, by omega, by rw [HE.out]; exact HX6, HZ6, HK6⟩
      case measure => simp [intOf]; omega
    case neg =>
      have hkb : (((k : Int)) == 0) = false := beq_eq_false_iff_ne.2 (by omega)
      cases hbt : beatsB p.s p.w y.s y.w with
      | false =>
        have HE := Hid.intro (HEn.out hk0 (HBt.out.trans hbt))
        repeat (go_big_quiet_step (first | (go_at_call 16; refine KB.out _ _ _ _ _ _)))
        refine wpQuiet_nil ?_
        intro W5 hw'
        obtain ⟨⟨Wx, hW5⟩, hw''⟩ := hw'
        subst hw''
        have HX5 := Hid.intro ((hW5.block _ hwz).trans HX.out)
        have HZ5 := Hid.intro ((hW5.block _ (by omega)).trans HZ.out)
        have HK5 := Hid.intro (k_trans HK.out hW5)
        clear m0 m1 m2 m3 hne hW5 HX HZ HK HPc
        go_wp2
        go_roundw
        case rel => exact ⟨k + 1, by go_num, by omega, by rw [HE.out]; exact HX5, HZ5, HK5⟩
        case measure => simp [intOf]; omega
      | true =>
        have HE := Hid.intro (HEy.out hk0 (HBt.out.trans hbt))
        repeat (go_big_quiet_step (first | (go_at_call 16; refine KB.out _ _ _ _ _ _)))
        refine wpQuiet_nil ?_
        intro W5 hw'
        obtain ⟨⟨Wx, hW5⟩, hw''⟩ := hw'
        subst hw''
        clear m0 m1 m2 m3 hne
        have HX5 := (hW5.block _ hwz).trans HX.out
        have HZ5 := (hW5.block w.heap.size (by omega)).trans HZ.out
        have HK5 := k_trans HK.out hW5
        have x0 := (hW5.cell (p := ⟨b, _, none⟩) HPc.out.1).trans HPc.out.2.1
        have x1 := (hW5.cell (p := ⟨b, _, none⟩) HPc.out.1).trans HPc.out.2.2.1
        have x2 := (hW5.cell (p := ⟨b, _, none⟩) HPc.out.1).trans HPc.out.2.2.2
        obtain ⟨⟨c0, c1, c2⟩, f0, f1, f2⟩ := cells3 HX5
        have HX6 := Hid.intro (st3_is HX5 (.int .i64 p.s) (.int .i64 p.w) (.int .i64 p.c))
        have hbk := st3_bk W5 (w.heap.size + 1) (.int .i64 p.s) (.int .i64 p.w) (.int .i64 p.c)
        have HZ6 := Hid.intro ((hbk.block w.heap.size (Array.getElem?_eq_some_iff.1 HZ5).1 (by omega)).trans HZ5)
        have HK6 := Hid.intro (HK5.trans (hbk.below HK5.size (by omega)))
        clear hW5 HX HZ HK HX5 HZ5 HK5 hbk HPc
        go_wp2
        go_roundw
        case rel => exact ⟨k + 1, by go_num, by omega, by rw [HE.out]; exact HX6, HZ6, HK6⟩
        case measure => simp [intOf]; omega
end Go.Proofs.Ytfkkhfiiokhnaag
namespace Go.Proofs.Ytfkkhfiiokhnaag
open Go.RowKit

theorem bt_neg {a b c : Fr} (h : btF a b = false) (k : btF b c = false) : btF a c = false := beats_neg h k
theorem bt_self (a : Fr) : btF a a = false := beats_self _ _
theorem bt_not {a b : Fr} (h : btF a b = true) : btF b a = false := beats_not _ _ _ _ h
/-- what beats what is not beaten by another one beats that -/
theorem bt_over {x b l : Fr} (h : btF x b = true) (k : btF l b = false) : btF x l = true := by
  cases e : btF x l with
  | true => rfl
  | false => have := bt_neg e k; rw [h] at this; cases this
theorem best_facts (l : List Fr) : ∀ k, 0 < k → k ≤ l.length → ∃ m, m < k ∧ bestTo l k = l.getD m dF ∧ (∀ i, i < m → btF (bestTo l k) (l.getD i dF) = true) ∧ ∀ i, i < k → btF (l.getD i dF) (bestTo l k) = false
  | 0, h, _ => absurd h (Nat.lt_irrefl _)
  | 1, _, _ => ⟨0, by omega, by rw [bestTo, if_pos rfl], fun i hi => absurd hi (Nat.not_lt_zero _), fun i hi => by obtain rfl : i = 0 := by omega
                                                                                                                   rw [bestTo, if_pos rfl]; exact bt_self _⟩
  | k + 2, _, hk => by
    obtain ⟨m, hm, e, h1, h2⟩ := best_facts l (k + 1) (by omega) (by omega)
    cases hb : btF (l.getD (k + 1) dF) (bestTo l (k + 1)) with
    | true =>
      rw [bestTo_yes hb]
      refine ⟨k + 1, by omega, rfl, fun i hi => bt_over hb (h2 i hi), fun i hi => ?_⟩
      rcases Nat.lt_or_eq_of_le (Nat.lt_succ_iff.1 hi) with h3 | rfl
      · exact bt_not (bt_over hb (h2 i h3))
      · exact bt_self _
    | false =>
      rw [bestTo_no hb]
      refine ⟨m, by omega, e, h1, fun i hi => ?_⟩
      rcases Nat.lt_or_eq_of_le (Nat.lt_succ_iff.1 hi) with h3 | rfl
      · exact h2 i h3
      · exact hb
/-- the first place of a border in a list -/
theorem first_place (l : List Fr) (x : Fr) : ∀ m, l.getD m dF = x → ∃ q, q ≤ m ∧ l.getD q dF = x ∧ ∀ i, i < q → l.getD i dF ≠ x := by
  intro m hm
  induction m using Nat.strongRecOn with
  | ind m ih =>
    by_cases h : ∃ i, i < m ∧ l.getD i dF = x
    · obtain ⟨i, hi, hx⟩ := h
      obtain ⟨q, h1, h2, h3⟩ := ih i hi hx
      exact ⟨q, by omega, h2, h3⟩
    · exact ⟨m, Nat.le_refl _, hm, fun i hi hx => h ⟨i, hi, hx⟩⟩
theorem best_place (l : List Fr) (h : 0 < l.length) : ∃ q, q < l.length ∧ l.getD q dF = bestF l ∧ (∀ i, i < q → l.getD i dF ≠ bestF l) ∧ (∀ i, i < q → btF (bestF l) (l.getD i dF) = true) ∧ ∀ i, i < l.length → btF (l.getD i dF) (bestF l) = false := by
  obtain ⟨m, hm, e, h1, h2⟩ := best_facts l l.length h (Nat.le_refl _)
  obtain ⟨q, hq, e2, h3⟩ := first_place l (bestF l) m e.symm
  exact ⟨q, by omega, e2, h3, fun i hi => h1 i (by omega), h2⟩
def frEq (a b : Fr) : Bool := a.s == b.s && (a.w == b.w && a.c == b.c)
theorem fr_ne {a b : Fr} (h : a ≠ b) : ¬ (a.s = b.s ∧ a.w = b.w ∧ a.c = b.c) := fun ⟨h1, h2, h3⟩ => h (by cases a; cases b; simp at *; exact ⟨h1, h2, h3⟩)
end Go.Proofs.Ytfkkhfiiokhnaag
namespace Go.Proofs.Ytfkkhfiiokhnaag
open Go.RowKit

/-- a cell at its place -/
structure GC where
  row : Int
  col : Int
  rows : Int
  cols : Int
  ins : Int
/-- a grid -/
structure G where
  rows : Int
  cols : Int
  cells : List GC
def dG : GC := ⟨0, 0, 0, 0, 0⟩
def I64 (n : Int) : Prop := -9223372036854775808 ≤ n ∧ n ≤ 9223372036854775807
def GOk (x : GC) : Prop := I64 x.row ∧ I64 x.col ∧ I64 x.rows ∧ I64 x.cols ∧ I64 x.ins
/-- the five cells of a cell from an address on -/
def GIs (w : World) (b o : Nat) (x : GC) : Prop :=
  w.cell? ⟨b, o, none⟩ = some (.int .i64 x.row) ∧ w.cell? ⟨b, o + 1, none⟩ = some (.int .i64 x.col) ∧ w.cell? ⟨b, o + 2, none⟩ = some (.int .i64 x.rows) ∧
  w.cell? ⟨b, o + 3, none⟩ = some (.int .i64 x.cols) ∧ w.cell? ⟨b, o + 4, none⟩ = some (.int .i64 x.ins)
def GsAt (w : World) (z : Nat) (v : Value) (gs : List GC) : Prop := At w z v gs.length 5 (fun i b o => GIs w b o (gs.getD i dG) ∧ GOk (gs.getD i dG))
def GrdAt (w : World) (z : Nat) (v : Value) (g : G) : Prop := ∃ vc, v = .agg #[.int .i64 g.rows, .int .i64 g.cols, vc] ∧ GsAt w z vc g.cells

theorem GIs.since {w w' : World} {z b o : Nat} {x : GC} (h : GIs w b o x) (hb : b < w.heap.size) (hz : z ≤ b) (k : Since z w w') : GIs w' b o x := by
  unfold GIs at h ⊢
  simp only [k.cell hz hb]
  exact h
theorem GsAt.since {w w' : World} {z : Nat} {v : Value} {gs : List GC} (h : GsAt w z v gs) (k : Since z w w') : GsAt w' z v gs :=
  At.mono h k.size (Nat.le_refl _) (fun _ _ _ _ hb hz he => ⟨he.1.since hb hz k, he.2⟩)
theorem GsAt.kept {w w' : World} {z : Nat} {v : Value} {gs : List GC} (h : GsAt w z v gs) (k : Below w.heap.size w w') : GsAt w' z v gs := h.since (.of_below k)
theorem GsAt.base {w : World} {z z' : Nat} {v : Value} {gs : List GC} (h : GsAt w z v gs) (hz : z' ≤ z) : GsAt w z' v gs := At.mono h (Nat.le_refl _) hz (fun _ _ _ _ _ _ he => he)

/-- the place of the first cell of a kind; -1, if there is none -/
def findTo (p : GC → Bool) (gs : List GC) : Int := match gs.findIdx? p with | some k => (k : Int) | none => -1
theorem findTo_hit {p : GC → Bool} {gs : List GC} {k : Nat} (hk : k < gs.length) (h : ∀ i, i < k → p (gs.getD i dG) = false) (hp : p (gs.getD k dG) = true) : findTo p gs = (k : Int) := by
  have e : gs.findIdx? p = some k := by
    rw [List.findIdx?_eq_some_iff_getElem]
    refine ⟨hk, by simpa [List.getD, hk] using hp, fun j hj => ?_⟩
    have := h j hj
    simpa [List.getD, Nat.lt_trans hj hk] using this
  rw [findTo, e]
theorem findTo_none {p : GC → Bool} {gs : List GC} (h : ∀ i, i < gs.length → p (gs.getD i dG) = false) : findTo p gs = -1 := by
  have e : gs.findIdx? p = none := by
    rw [List.findIdx?_eq_none_iff]
    intro x hx
    obtain ⟨i, hi, rfl⟩ := List.mem_iff_getElem.1 hx
    have := h i hi
    simpa [List.getD, hi] using this
  rw [findTo, e]
end Go.Proofs.Ytfkkhfiiokhnaag
namespace Go.Proofs.Ytfkkhfiiokhnaag
open Go.RowKit

theorem within_any (n lo hi : Int) (w : World) :
    Calls Try.prog 76 #[.int .i64 n, .int .i64 lo, .int .i64 hi] w fun e w' => e = .returned (.bool (inB n lo hi)) ∧ w' = w := by
  by_cases h1 : lo ≤ n
  · by_cases h2 : n ≤ hi
    · have HB : Hid (inB n lo hi = true) := inB_true h1 h2
      go_enter Try.func76, Try.ntmps76
      go_wp2
      go_ret
      exact ⟨retB HB.out.symm, rfl⟩
    · have HB : Hid (inB n lo hi = false) := inB_false (by omega)
      go_enter Try.func76, Try.ntmps76
      go_wp2
      go_ret
      exact ⟨retB HB.out.symm, rfl⟩
  · have HB : Hid (inB n lo hi = false) := inB_false (by omega)
    go_enter Try.func76, Try.ntmps76
    go_wp2
    go_ret
    exact ⟨retB HB.out.symm, rfl⟩

theorem l1In_any (n lo hi : Int) (w : World) :
    Calls Try.prog 46 #[.int .i64 n, .int .i64 lo, .int .i64 hi] w fun e w' => e = .returned (.bool (inB n lo hi)) ∧ w' = w := by
  by_cases h1 : lo ≤ n
  · by_cases h2 : n ≤ hi
    · have HB : Hid (inB n lo hi = true) := inB_true h1 h2
      go_enter Try.func46, Try.ntmps46
      go_wp2
      go_ret
      exact ⟨retB HB.out.symm, rfl⟩
    · have HB : Hid (inB n lo hi = false) := inB_false (by omega)
      go_enter Try.func46, Try.ntmps46
      go_wp2
      go_ret
      exact ⟨retB HB.out.symm, rfl⟩
  · have HB : Hid (inB n lo hi = false) := inB_false (by omega)
    go_enter Try.func46, Try.ntmps46
    go_wp2
    go_ret
    exact ⟨retB HB.out.symm, rfl⟩
end Go.Proofs.Ytfkkhfiiokhnaag
namespace Go.Proofs.Ytfkkhfiiokhnaag
open Go.RowKit

/-- a cell's eleven cells -/
def cellVs (x : C) : List Value := [.string x.s, .int .i64 x.c, .int .i64 x.r, .int .i64 x.a1, .int .i64 x.b1, .int .i64 x.a2, .int .i64 x.b2, .int .i64 x.a3, .int .i64 x.b3, .int .i64 x.a4, .int .i64 x.b4]
def colVs (p : Int × Int) : List Value := [.int .i64 p.1, .int .i64 p.2]
def rowVs (p : Value × R) : List Value := [p.1, .bool p.2.whole]
def OwnC (w : World) (base : Nat) (u : Value) (cs : List C) : Prop := w.ownsRow base 89 11 u cs.length (cs.flatMap cellVs)
def OwnCol (w : World) (base : Nat) (v : Value) (ps : List (Int × Int)) : Prop := w.ownsRow base 83 2 v ps.length (ps.flatMap colVs)
/-- rows, each with its slice of cells -/
structure OwnR (w : World) (base : Nat) (v : Value) (ur : List (Value × R)) : Prop where
  own : w.ownsRow base 86 2 v ur.length (ur.flatMap rowVs)
  cells : ∀ p ∈ ur, OwnC w base p.1 p.2.cells
  apart : ur.Pairwise fun p q => p.1.ownBlock = none ∨ p.1.ownBlock ≠ q.1.ownBlock

/-- what stays: all blocks from n on but these two -/
structure Off (n : Nat) (b1 b2 : Option Nat) (w w' : World) : Prop where
  size : w.heap.size ≤ w'.heap.size
  block : ∀ k, n ≤ k → k < w.heap.size → some k ≠ b1 → some k ≠ b2 → w'.heap[k]? = w.heap[k]?
theorem Off.bk {n r : Nat} {b1 b2 : Option Nat} {w w' : World} (h : Bk r w w') (hr : r < n) : Off n b1 b2 w w' := ⟨h.size, fun k hk hl _ _ => h.block k hl (by omega)⟩
theorem Off.grown {n : Nat} {b1 b2 : Option Nat} {w w' : World} (h : w.grownBy w' b2) : Off n b1 b2 w w' := ⟨h.size, fun k _ hl _ h2 => h.block k hl h2⟩
theorem Off.set {n g : Nat} {b2 : Option Nat} (w : World) (p : Addr) (hp : p.block = g) (v : Value) : Off n (some g) b2 w (w.setCell p v) := ⟨by simp [World.setCell], fun k _ _ h1 _ => Below.heap_setCell _ _ _ _ (fun e => h1 (by rw [e, hp]))⟩

theorem row_off {w w' : World} {base n : Nat} {e : TypeId} {sz : Nat} {v : Value} {m : Nat} {xs : List Value} {b1 b2 : Option Nat} (h : w.ownsRow base e sz v m xs) (k : Off n b1 b2 w w') (hn : n ≤ base) (h1 : v.ownBlock = none ∨ v.ownBlock ≠ b1) (h2 : v.ownBlock = none ∨ v.ownBlock ≠ b2) : w'.ownsRow base e sz v m xs :=
  ⟨h.1, h.2.elim Or.inl (fun ⟨g, cap, cur, hv, hg, hc, q⟩ => Or.inr ⟨g, cap, cur, hv, hg, (k.block g (by omega) (Array.getElem?_eq_some_iff.1 hc).1
    (fun e => by subst hv; rcases h1 with h1 | h1 <;> simp [Value.ownBlock] at h1; exact h1 e)
    (fun e => by subst hv; rcases h2 with h2 | h2 <;> simp [Value.ownBlock] at h2; exact h2 e)).trans hc, q⟩)⟩
/-- a block's kind tells blocks apart -/
theorem row_ne {w : World} {base base' : Nat} {e e' : TypeId} {sz sz' : Nat} {v v' : Value} {m m' : Nat} {xs xs' : List Value} (h : w.ownsRow base e sz v m xs) (h' : w.ownsRow base' e' sz' v' m' xs') (he : e ≠ e') : v.ownBlock = none ∨ v.ownBlock ≠ v'.ownBlock := by
  rcases h.2 with ⟨rfl, _⟩ | ⟨g, cap, cur, rfl, _, hc, _⟩
  · exact .inl rfl
  · refine .inr (fun e1 => ?_)
    rcases h'.2 with ⟨rfl, _⟩ | ⟨g', cap', cur', rfl, _, hc', _⟩
    · simp [Value.ownBlock] at e1
    · simp [Value.ownBlock] at e1
      subst e1
      rw [hc] at hc'
      simp at hc'
      exact he hc'.2
theorem row_ne_block {w : World} {base : Nat} {e e' : TypeId} {sz : Nat} {v : Value} {m : Nat} {xs : List Value} {g : Nat} {cur : Array Value} (h : w.ownsRow base e sz v m xs) (h' : w.heap[g]? = some (.cells cur e')) (he : e ≠ e') : v.ownBlock = none ∨ v.ownBlock ≠ some g := by
  rcases h.2 with ⟨rfl, _⟩ | ⟨g', cap, cur', rfl, _, hc, _⟩
  · exact .inl rfl
  · refine .inr (fun e1 => ?_)
    simp [Value.ownBlock] at e1
    subst e1
    rw [hc] at h'
    simp at h'
    exact he h'.2
theorem row_lt {w : World} {base : Nat} {e : TypeId} {sz : Nat} {v : Value} {m : Nat} {xs : List Value} (h : w.ownsRow base e sz v m xs) {b : Nat} (hb : v.ownBlock = some b) : base ≤ b ∧ b < w.heap.size := by
  rcases h.2 with ⟨rfl, _⟩ | ⟨g, cap, cur, rfl, hg, hc, _⟩
  · simp [Value.ownBlock] at hb
  · simp [Value.ownBlock] at hb
    subst hb
    exact ⟨hg, (Array.getElem?_eq_some_iff.1 hc).1⟩
theorem row_base {w : World} {base base' : Nat} {e : TypeId} {sz : Nat} {v : Value} {m : Nat} {xs : List Value} (h : w.ownsRow base e sz v m xs) (hb : base' ≤ base) : w.ownsRow base' e sz v m xs :=
  ⟨h.1, h.2.elim Or.inl (fun ⟨g, cap, cur, hv, hg, q⟩ => Or.inr ⟨g, cap, cur, hv, by omega, q⟩)⟩
theorem row_form {w : World} {base : Nat} {e : TypeId} {sz : Nat} {v : Value} {m : Nat} {xs : List Value} (h : w.ownsRow base e sz v m xs) : ∃ a cap, v = .slice a m cap ∧ m ≤ maxLen := by
  rcases h.2 with ⟨rfl, rfl⟩ | ⟨g, cap, cur, rfl, _, _, h1, h2, _⟩
  · exact ⟨none, 0, rfl, by unfold maxLen; omega⟩
  · exact ⟨_, cap, rfl, Nat.le_trans h1 h2⟩
theorem OwnR.off {w w' : World} {base n : Nat} {v : Value} {ur : List (Value × R)} {b1 b2 : Option Nat} (h : OwnR w base v ur) (k : Off n b1 b2 w w') (hn : n ≤ base) (h1 : v.ownBlock = none ∨ v.ownBlock ≠ b1) (h2 : v.ownBlock = none ∨ v.ownBlock ≠ b2)
    (hc : ∀ p ∈ ur, (p.1.ownBlock = none ∨ p.1.ownBlock ≠ b1) ∧ (p.1.ownBlock = none ∨ p.1.ownBlock ≠ b2)) : OwnR w' base v ur :=
  ⟨row_off h.own k hn h1 h2, fun p hp => row_off (h.cells p hp) k hn (hc p hp).1 (hc p hp).2, h.apart⟩
/-- what is not among two blocks -/
def OffV (v : Value) (b1 b2 : Option Nat) : Prop := (v.ownBlock = none ∨ v.ownBlock ≠ b1) ∧ (v.ownBlock = none ∨ v.ownBlock ≠ b2)

/-- elements of so many cells, one behind the other -/
theorem flat_get {α : Type} (f : α → List Value) (sz : Nat) (hf : ∀ x, (f x).length = sz) (l : List α) (i : Nat) (hi : i < l.length) (j : Nat) (hj : j < sz) : (l.flatMap f)[i * sz + j]? = (f l[i])[j]? := by
  induction l generalizing i with
  | nil => simp at hi
  | cons a t ih =>
    rw [List.flatMap_cons]
    cases i with
    | zero => rw [List.getElem?_append_left (by rw [hf]; omega)]; simp
    | succ i =>
      rw [List.getElem?_append_right (by rw [hf, Nat.succ_mul]; omega), hf]
      have e : (i + 1) * sz + j - sz = i * sz + j := by rw [Nat.succ_mul]; omega
      rw [e, ih i (by simpa using hi)]
      simp
theorem flat_len {α : Type} (f : α → List Value) (sz : Nat) (hf : ∀ x, (f x).length = sz) (l : List α) : (l.flatMap f).length = l.length * sz := by
  induction l with
  | nil => simp
  | cons a t ih => rw [List.flatMap_cons, List.length_append, hf, ih, List.length_cons, Nat.succ_mul]; omega
theorem row_cell {w : World} {base : Nat} {e : TypeId} {sz : Nat} {m : Nat} {xs : List Value} {g cap : Nat} (h : w.ownsRow base e sz (.slice (some ⟨g, 0, none⟩) m cap) m xs) {k : Nat} {u : Value} (hk : xs[k]? = some u) : w.cell? ⟨g, k, none⟩ = some u := by
  have hl : k < xs.length := (List.getElem?_eq_some_iff.1 hk).1
  rcases h.2 with ⟨e, _⟩ | ⟨g', cap', cur, e, _, hc, _, _, _, ht⟩
  · simp at e
  · simp at e
    obtain ⟨rfl, rfl⟩ := e
    rw [cellB hc, ← Array.getElem?_toList]
    rw [← ht, List.getElem?_take_of_lt (by rw [h.1] at hl; exact hl)] at hk
    exact hk
theorem getD_get {α : Type} {l : List α} {i : Nat} (d : α) (h : i < l.length) : l.getD i d = l[i] := by simp [List.getD, h]
theorem OwnC.at {w : World} {base : Nat} {u : Value} {cs : List C} (h : OwnC w base u cs) (hs : ∀ x ∈ cs, x.s.size ≤ 61) : CellsAt w base u cs := by
  rcases h.2 with ⟨rfl, hn⟩ | ⟨g, cap, cur, rfl, hg, hc, h1, h2, _⟩
  · exact ⟨none, 0, by rw [hn], by omega, by unfold maxLen; omega, fun i hi => by omega⟩
  · refine ⟨_, cap, rfl, h1, h2, fun i hi => ⟨g, 0, rfl, (Array.getElem?_eq_some_iff.1 hc).1, hg, ?_, ?_⟩⟩
    · have hx : ∀ j, j < 11 → w.cell? ⟨g, i * 11 + j, none⟩ = (cellVs cs[i])[j]? := fun j hj => by
        have e := flat_get cellVs 11 (fun _ => rfl) cs i hi j hj
        rw [row_cell h (u := (cellVs cs[i])[j]'(by show j < 11; exact hj)) (by rw [e]; simp)]
        simp
      rw [getD_get dC hi, Nat.zero_add]
      exact ⟨hx 0 (by omega), hx 1 (by omega), hx 2 (by omega), hx 3 (by omega), hx 4 (by omega), hx 5 (by omega), hx 6 (by omega), hx 7 (by omega), hx 8 (by omega), hx 9 (by omega), hx 10 (by omega)⟩
    · rw [getD_get dC hi]
      have := hs _ (List.getElem_mem hi)
      unfold maxLen
      omega
theorem OwnCol.at {w : World} {base : Nat} {u : Value} {ps : List (Int × Int)} (h : OwnCol w base u ps) : ColsAt w base u ps := by
  rcases h.2 with ⟨rfl, hn⟩ | ⟨g, cap, cur, rfl, hg, hc, h1, h2, _⟩
  · exact ⟨none, 0, by rw [hn], by omega, by unfold maxLen; omega, fun i hi => by omega⟩
  · refine ⟨_, cap, rfl, h1, h2, fun i hi => ⟨g, 0, rfl, (Array.getElem?_eq_some_iff.1 hc).1, hg, ?_⟩⟩
    have hx : ∀ j, j < 2 → w.cell? ⟨g, i * 2 + j, none⟩ = (colVs ps[i])[j]? := fun j hj => by
      have e := flat_get colVs 2 (fun _ => rfl) ps i hi j hj
      rw [row_cell h (u := (colVs ps[i])[j]'(by show j < 2; exact hj)) (by rw [e]; simp)]
      simp
    dsimp only
    rw [getD_get (0, 0) hi, Nat.zero_add]
    exact ⟨hx 0 (by omega), hx 1 (by omega)⟩
theorem OwnR.at {w : World} {base : Nat} {v : Value} {ur : List (Value × R)} (h : OwnR w base v ur) (hs : ∀ p ∈ ur, ∀ x ∈ p.2.cells, x.s.size ≤ 61) : RowsAt w base v (ur.map (·.2)) := by
  have hl : (ur.map (·.2)).length = ur.length := by simp
  rcases h.own.2 with ⟨rfl, hn⟩ | ⟨g, cap, cur, rfl, hg, hc, h1, h2, _⟩
  · exact ⟨none, 0, by rw [hl, hn], by rw [hl]; omega, by unfold maxLen; omega, fun i hi => by rw [hl] at hi; omega⟩
  · refine ⟨_, cap, by rw [hl], by rw [hl]; exact h1, h2, fun i hi => ⟨g, 0, rfl, (Array.getElem?_eq_some_iff.1 hc).1, hg, ?_⟩⟩
    rw [hl] at hi
    have hx : ∀ j, j < 2 → w.cell? ⟨g, i * 2 + j, none⟩ = (rowVs ur[i])[j]? := fun j hj => by
      have e := flat_get rowVs 2 (fun _ => rfl) ur i hi j hj
      rw [row_cell h.own (u := (rowVs ur[i])[j]'(by show j < 2; exact hj)) (by rw [e]; simp)]
      simp
    have hm := List.getElem_mem hi
    dsimp only
    rw [getD_get dR (by rw [hl]; exact hi), Nat.zero_add, List.getElem_map]
    exact ⟨ur[i].1, hx 0 (by omega), hx 1 (by omega), (h.cells _ hm).at (hs _ hm)⟩
end Go.Proofs.Ytfkkhfiiokhnaag
namespace Go.Proofs.Ytfkkhfiiokhnaag
open Go.RowKit

def brdOkB (a b : Int) : Bool := decide ((a = 0 ∨ a = 4) ∧ b = 0 ∨ (1 ≤ a ∧ a ≤ 3) ∧ 1 ≤ b ∧ b ≤ 3)
theorem brd_zero (b : Int) : brdOkB 0 b = (b == 0) := by rw [Bool.eq_iff_iff]; simp [brdOkB]
theorem brd_four (b : Int) : brdOkB 4 b = (b == 0) := by rw [Bool.eq_iff_iff]; simp [brdOkB]; 
theorem brd_seen {a : Int} (b : Int) (h1 : 1 ≤ a) (h2 : a ≤ 3) : brdOkB a b = inB b 1 3 := by rw [Bool.eq_iff_iff]; simp [brdOkB, inB]; omega
theorem brd_other {a : Int} (b : Int) (h0 : a ≠ 0) (h4 : a ≠ 4) (h : ¬ (1 ≤ a ∧ a ≤ 3)) : brdOkB a b = false := by simp [brdOkB]; omega
end Go.Proofs.Ytfkkhfiiokhnaag
