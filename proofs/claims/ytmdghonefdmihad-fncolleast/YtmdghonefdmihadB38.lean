/-
  PROVED HERE: the model's l5Zero, l5Least and ColLeast at a drawn table: the list leastL, in memory of its own; nothing that was in memory is turned. Also: small facts on places of a grid, for the other texts of this claim. Also: what the program's reaches answers at every argument; nothing in memory is turned. Also: what the program's acrossAll and WidCell answer of any list of numbers in memory and any cell; nothing that was in memory is turned. Also: where columns begin and end, and how wide a cell is, at small numbers.
-/
import Derived.Test.YtmdghonefdmihadB37
import Derived.Laws.AppendOwn
namespace Go.Proofs.Ytmdghonefdmihad
open Go.RowKit Go.BigFrame

set_option maxRecDepth 100000 in
theorem specl5Zero (r : Int) (vg : Value) (C : Nat) (hC : C ≤ 88) (w : World) :
    Calls Try.prog 74 #[.agg #[.int .i64 r, .int .i64 (C : Int), vg]] w fun e w' => ∃ v, e = .returned v ∧ RowI w' w.heap.size w'.heap.size v (zeroL C) ∧ Below w.heap.size w w' := by
  have hmk := makeI C (by omega)
  have X0 := newestB w (.cells #[.int .i64 r, .int .i64 (C : Int), vg] 46)
  have x1 : (w.alloc (.cells #[.int .i64 r, .int .i64 (C : Int), vg] 46)).cell? ⟨w.heap.size, 1, none⟩ = some (.int .i64 (C : Int)) := cellB X0
  clear X0
  go_enter Try.func74, Try.ntmps74
  go_wp2
  go_ret
  have R := row_new (w.alloc (.cells #[.int .i64 r, .int .i64 (C : Int), vg] 46)) C (by omega)
  refine ⟨_, rfl, ?_, k_alloc (k_alloc (Below.refl _ _) _) _⟩
  have R2 := R.base (B' := w.heap.size) (D' := w.heap.size + 1 + 1) (by simp) (by simp)
  simpa [zeroL] using R2

/-- the table and the grid in their boxes -/
def Ls (w : World) (z zg : Nat) (ac ar : Option Addr) (cc cr : Nat) (t : T) (ag : Option Addr) (cg : Nat) (W : World) : Prop :=
  Below w.heap.size w W ∧ (ColsAt W z (.slice ac t.cols.length cc) t.cols ∧ RowsAt W z (.slice ar t.rows.length cr) t.rows) ∧ GsAt W zg (.slice ag (gOf t).cells.length cg) (gOf t).cells ∧ W.heap[w.heap.size]? = some (.cells #[.slice ac t.cols.length cc, .int .i64 t.head, .int .i64 t.foot, .slice ar t.rows.length cr, .int .i64 t.gap] 40) ∧ W.heap[w.heap.size + 1]? = some (.cells #[.int .i64 (gOf t).rows, .int .i64 (gOf t).cols, .slice ag (gOf t).cells.length cg] 46)
theorem Ls.kept {w W W' : World} {z zg : Nat} {ac ar ag : Option Addr} {cc cr cg : Nat} {t : T} (h : Ls w z zg ac ar cc cr t ag cg W) (hb : Below W.heap.size W W') : Ls w z zg ac ar cc cr t ag cg W' :=
  ⟨h.1.trans (hb.mono h.1.size), ⟨h.2.1.1.kept hb, h.2.1.2.kept hb⟩, h.2.2.1.kept hb, (hb.block _ (Array.getElem?_eq_some_iff.1 h.2.2.2.1).1).trans h.2.2.2.1, (hb.block _ (Array.getElem?_eq_some_iff.1 h.2.2.2.2).1).trans h.2.2.2.2⟩
theorem threeO {w : World} {g : Nat} {x0 x1 x2 : Value} {t : TypeId} (h : w.heap[g]? = some (.cells #[x0, x1, x2] t)) :
    w.cell? ⟨g, 0, none⟩ = some x0 ∧ w.cell? ⟨g, 1, none⟩ = some x1 ∧ w.cell? ⟨g, 2, none⟩ = some x2 := ⟨cellB h, cellB h, cellB h⟩
set_option maxRecDepth 100000 in
set_option maxHeartbeats 1000000 in
theorem specl5Least (ac ar : Option Addr) (cc cr : Nat) (t : T) (hD : Drawn t) (ag : Option Addr) (cg : Nat) (w : World) {z zg : Nat} (hc : ColsAt w z (.slice ac t.cols.length cc) t.cols) (hr : RowsAt w z (.slice ar t.rows.length cr) t.rows) (hg : GsAt w zg (.slice ag (gOf t).cells.length cg) (gOf t).cells) (hok : tblB t = true) :
    Calls Try.prog 51 #[.agg #[.slice ac t.cols.length cc, .int .i64 t.head, .int .i64 t.foot, .slice ar t.rows.length cr, .int .i64 t.gap], .agg #[.int .i64 (gOf t).rows, .int .i64 (gOf t).cols, .slice ag (gOf t).cells.length cg]] w fun e w' => ∃ v, e = .returned v ∧ RowI w' w.heap.size w'.heap.size v (leastL t) ∧ Below w.heap.size w w' := by
  obtain ⟨_, C, hgc, hC, _⟩ := cel_of hD
  have hC1 : 1 ≤ C := by
    have h1 : (gOf t).cols = colsOf (max 1 (t.cols.length : Int)) (gridOf t) := by rw [gOf_ok hok]
    have h2 := colsOf_ge (gridOf t) (max 1 (t.cols.length : Int))
    omega
  have HCN := Hid.intro (colN_of hgc)
  have HL : Hid (fixTo t.cols (needL t (leastP t)) C = leastL t) := by rw [Hid, leastL, HCN.out]
  have hNL : needTo (fun x => ((leastOf (wordsW (textOf t x)) : Nat) : Int)) t.gap (gOf t).cells (zeroL C) 4 = needL t (leastP t) := by unfold needL; rw [HCN.out]; rfl
  have hlen := needL_len t (leastP t)
  rw [HCN.out] at hlen
  have HUp := Hid.intro (needL_up hD (fun x => (leastP_le t x).2))
  have HSd := Hid.intro (fun k (hk : k < C) => sd_small (t := t) (k := k) (by rw [HCN.out]; exact hk))
  have hzl : (zeroL C).length = C := by simp [zeroL]
  have hfl0 := field0
  have hfl1 := field1
  have hmx : Try.prog.follows .mixedOrders = true := by kernel_rfl
  have KN := Hid.intro (fun W h1 h2 a0 c0 h3 => specl5Need_true ac ar cc cr t hD ag cg W (z := z) (zg := zg) h1 h2 C hgc hC1 a0 c0 h3)
  have KZ := Hid.intro (fun W => specl5Zero (gOf t).rows (.slice ag (gOf t).cells.length cg) C hC W)
  rw [← hgc] at KZ
  rw [hNL] at KN
  generalize needL t (leastP t) = L at KN HL hlen HUp
  have HP : Hid (Ls w z zg ac ar cc cr t ag cg ((w.alloc (.cells #[.slice ac t.cols.length cc, .int .i64 t.head, .int .i64 t.foot, .slice ar t.rows.length cr, .int .i64 t.gap] 40)).alloc (.cells #[.int .i64 (gOf t).rows, .int .i64 (gOf t).cols, .slice ag (gOf t).cells.length cg] 46))) := by
    have K := k_alloc (k_alloc (Below.refl w.heap.size w) (.cells #[.slice ac t.cols.length cc, .int .i64 t.head, .int .i64 t.foot, .slice ar t.rows.length cr, .int .i64 t.gap] 40)) (.cells #[.int .i64 (gOf t).rows, .int .i64 (gOf t).cols, .slice ag (gOf t).cells.length cg] 46)
    refine ⟨K, ⟨hc.kept K, hr.kept K⟩, hg.kept K, (Below.heap_alloc _ _ _ (by simp)).trans (newestB _ _), ?_⟩
    have := newestB (w.alloc (.cells #[.slice ac t.cols.length cc, .int .i64 t.head, .int .i64 t.foot, .slice ar t.rows.length cr, .int .i64 t.gap] 40)) (.cells #[.int .i64 (gOf t).rows, .int .i64 (gOf t).cols, .slice ag (gOf t).cells.length cg] 46)
    simpa using this
  clear hNL hc hr hg hD hgc hok
  go_enter Try.func51, Try.ntmps51
  go_upto_region 1 with fail
  generalize (w.alloc (.cells #[.slice ac t.cols.length cc, .int .i64 t.head, .int .i64 t.foot, .slice ar t.rows.length cr, .int .i64 t.gap] 40)).alloc (.cells #[.int .i64 (gOf t).rows, .int .i64 (gOf t).cols, .slice ag (gOf t).cells.length cg] 46) = W0 at HP ⊢
  obtain ⟨b0, b1, b2, b3, b4⟩ := fiveO HP.out.2.2.2.1
  obtain ⟨q0, q1, q2⟩ := threeO HP.out.2.2.2.2
  have ht0 := (Array.getElem?_eq_some_iff.1 HP.out.2.2.2.1).1
  have hg0 := (Array.getElem?_eq_some_iff.1 HP.out.2.2.2.2).1
  go_cut [5] (fun s W => ∃ a c D, s = .slice a C c ∧ Hid (RowI W W0.heap.size D (.slice a C c) L) ∧ Hid (Below W0.heap.size W0 W) ∧ D ≤ W.heap.size)
  case first => as_aux_lemma =>
    have HPd := Hid.intro (HP.out.kept (k_drew (Below.refl _ _)))
    have HBd := Hid.intro (k_drew (Below.refl W0.heap.size W0))
    go_region_with (first
      | (go_at_call 74; refine (KZ.out _).mono ?_; rintro e w1 ⟨v1, rfl, hr1, hb1⟩; obtain ⟨a1, c1, rfl⟩ := hr1.form; rw [hzl] at hr1 ⊢; have R1 := Hid.intro hr1.at; have P1 := Hid.intro (HPd.out.kept hb1); have B1 := Hid.intro (k_trans HBd.out hb1); clear hr1 hb1; obtain ⟨p0, p1, p2, p3, p4⟩ := fiveO P1.out.2.2.2.1; obtain ⟨r0, r1, r2⟩ := threeO P1.out.2.2.2.2; have ht1 := (Array.getElem?_eq_some_iff.1 P1.out.2.2.2.1).1; have hg1 := (Array.getElem?_eq_some_iff.1 P1.out.2.2.2.2).1)
      | (go_at_call 73; refine (KN.out _ P1.out.2.1.2 P1.out.2.2.1 a1 c1 R1.out).mono ?_; rintro e w2 ⟨v2, rfl, hr2, hb2⟩; obtain ⟨a2, c2, rfl⟩ := hr2.form; rw [hlen] at hr2 ⊢; have R2 := Hid.intro (hr2.base (B' := W0.heap.size) B1.out.size (Nat.le_refl _)); have B2 := Hid.intro (k_trans B1.out hb2); clear hr2 hb2))
    all_goals (go_wp2_with fail; go_meet; case rel => exact ⟨_, _, _, rfl, R2, B2, Nat.le_refl _⟩)
  case rest =>
    obtain ⟨a2, c2, D, rfl, HR0, HB0, hD0⟩ := hcut
    clear b0 b1 b2 b3 b4 q0 q1 q2 hg0 KN KZ
    go_wp2_with fail
    go_loopw [6] (fun s W => ∃ k : Nat, s = .int .i64 k ∧ k ≤ C ∧ Hid (RowI W W0.heap.size D (.slice a2 C c2) (fixTo t.cols L k)) ∧ Hid (Below W0.heap.size W0 W) ∧ D ≤ W.heap.size) (fun s _ => C - (intOf s).toNat)
    case atStart => exact ⟨0, rfl, Nat.zero_le _, HR0, HB0, hD0⟩
    case round =>
      clear HR0 HB0 hD0
      obtain ⟨k, rfl, hk, HR, HB, hsz⟩ := hrel
      by_cases hlt : k < C
      case neg =>
        obtain rfl : k = C := by omega
        have HF := Hid.intro (HR.out.base (B' := w.heap.size) (D' := wr.heap.size) HP.out.1.size hsz)
        have HK := Hid.intro (HP.out.kept HB.out).1
        go_wp2
        go_ret
        exact ⟨_, rfl, by rw [← HL.out]; exact HF.out, HK.out⟩
      have HPr := Hid.intro (HP.out.kept HB.out)
      obtain ⟨b0, b1, b2, b3, b4⟩ := fiveO HPr.out.2.2.2.1
      have htr := (Array.getElem?_eq_some_iff.1 HPr.out.2.2.2.1).1
      have KS := Hid.intro (specl5Said ac ar cc cr t (k : Int) (by omega) wr HPr.out.2.1.1)
      obtain ⟨g, cap', e', hBg, hgD, hgw, hc1, hc2, hx, hf⟩ := HR.out.get (i := k) (by rw [fixTo_len]; omega)
      rw [fixTo_len, hlen] at e' hc1
      simp only [Value.slice.injEq, true_and] at e'
      obtain ⟨rfl, rfl⟩ := e'
      unfold maxLen at hc2
      have hxb := HUp.out k (by omega)
      rw [fixTo_out t.cols L k (Nat.le_refl _)] at hx
      have hsd := HSd.out k hlt
      have HYes : Hid ((sd t.cols k).1 = 1 → fixTo t.cols L (k + 1) = (fixTo t.cols L k).set k (max (L.getD k 0) (sd t.cols k).2)) := fun h => by rw [fixTo, if_pos h, fixTo_out t.cols L k (Nat.le_refl _)]
      have HNo : Hid ((sd t.cols k).1 ≠ 1 → fixTo t.cols L (k + 1) = fixTo t.cols L k) := fun h => by rw [fixTo, if_neg h]
      have KS3 := Hid.intro (fun W h => specl5Said ac ar cc cr t (k : Int) (by omega) W (z := z) h)
      generalize sd t.cols k = p at KS KS3 hsd HYes HNo
      by_cases hp : p.1 = 1
      case neg =>
        have hpb : (p.1 == 1) = false := by simpa using hp
        have HF := Hid.intro (HNo.out hp)
        clear HNo HYes hsd hp KS3
        go_wp2_with fail
        refine KS.out.mono ?_
        rintro e w3 ⟨rfl, hb3⟩
        have HK3 := Hid.intro hb3
        clear hb3
        go_wp2
        go_roundw
        case rel => exact ⟨k + 1, by go_num, by omega, by rw [HF.out]; exact HR.out.kept (fun j h0 _ _ => HK3.out.block j h0), k_trans HB.out HK3.out, Nat.le_trans hsz HK3.out.size⟩
        case measure => simp [intOf]; omega
      have HF := Hid.intro (HYes.out hp)
      have hq := hsd hp
      clear HNo HYes hsd
      obtain ⟨p1, p2⟩ := p
      obtain rfl : p1 = 1 := hp
      have hq : 0 ≤ p2 ∧ p2 ≤ 60 := hq
      dsimp only at KS HF KS3
      go_wp2_with fail
      refine KS.out.mono ?_
      rintro e W3 ⟨rfl, hb3⟩
      have HB3 := Hid.intro (k_trans HB.out hb3)
      have HR3 := Hid.intro (HR.out.kept (fun j h0 _ _ => hb3.block j h0))
      have HP3 := Hid.intro (HPr.out.kept hb3)
      have hsz3 : D ≤ W3.heap.size := Nat.le_trans hsz hb3.size
      clear hb3 HR HB hx hf b0 b1 b2 b3 b4 htr KS hsz HPr
      go_upto_region 6 with fail
      obtain ⟨g3, cap3, e3, hBg3, hgD3, hgw3, _, _, hx3, hf3⟩ := HR3.out.get (i := k) (by rw [fixTo_len]; omega)
      rw [fixTo_len, hlen] at e3
      simp only [Value.slice.injEq, Option.some.injEq, Addr.mk.injEq, and_true, true_and] at e3
      have eg3 := e3.1
      clear e3
      subst eg3
      rw [fixTo_out t.cols L k (Nat.le_refl _)] at hx3
      have ht3 := (Array.getElem?_eq_some_iff.1 HP3.out.2.2.2.1).1
      have hne := bw_some W3
      have m0 := bw_cell (a := ⟨w.heap.size, 0, none⟩) ht3 (cellB (p := 0) HP3.out.2.2.2.1)
      have m1 := bw_cell (a := ⟨w.heap.size, 1, none⟩) ht3 (cellB (p := 1) HP3.out.2.2.2.1)
      have m2 := bw_cell (a := ⟨w.heap.size, 2, none⟩) ht3 (cellB (p := 2) HP3.out.2.2.2.1)
      have m3 := bw_cell (a := ⟨w.heap.size, 3, none⟩) ht3 (cellB (p := 3) HP3.out.2.2.2.1)
      have m4 := bw_cell (a := ⟨w.heap.size, 4, none⟩) ht3 (cellB (p := 4) HP3.out.2.2.2.1)
      have m5 := bw_cell (a := ⟨g, k, none⟩) hgw3 hx3
      have HN := Hid.intro (fun W (h : Below W3.heap.size W3 W) => (HR3.out.kept (fun j h0 _ _ => h.block j h0)).set (i := k) (by rw [fixTo_len]; omega) (max (L.getD k 0) p2))
      rw [← HF.out] at HN
      have HLk : Hid (k < (fixTo t.cols L k).length) := by rw [Hid, fixTo_len]; omega
      generalize L.getD k 0 = y at hxb hx3 m5 HN
      have KSq := Hid.intro (fun (p : BW W3) => bw_of (KS3.out p.u (HP3.out.kept p.h).2.1.1))
      have KM := Hid.intro (fun (p : BW W3) => bw_same (l1Max_any y p2 p.u))
      clear hx3 hf3 HF KS3
      refine wp_region_last 12 hmx (by rfl) (by rfl) (by kernel_rfl) (by kernel_rfl) ?_
      simp only [List.take_succ_cons, List.take_zero]
      repeat (go_big_quiet_step (first | (go_at_call 75; refine KSq.out _) | (go_at_call 76; refine KM.out _)))
      refine wpQuiet_nil ?_
      intro W5 hw'
      obtain ⟨⟨Wx, hW5⟩, hw''⟩ := hw'
      subst hw''
      have HN5 := Hid.intro (HN.out _ hW5)
      have HB5 := Hid.intro (k_set (k_trans HB3.out hW5) (p := ⟨g, k, none⟩) hBg (.int .i64 (max y p2)))
      have hf5 := (HR3.out.kept (fun j h0 _ _ => hW5.block j h0)).get (i := k) HLk.out
      obtain ⟨g5, cap5, e5, _, _, hgw5, _, _, hx5, hf5⟩ := hf5
      simp only [Value.slice.injEq, Option.some.injEq, Addr.mk.injEq, and_true] at e5
      have eg := e5.1
      clear e5
      subst eg
      have hsz5 : D ≤ (W5.setCell ⟨g, k, none⟩ (.int .i64 (max y p2))).heap.size := by rw [sizeSet]; have := hW5.size; omega
      clear m0 m1 m2 m3 m4 m5 HN HB3 HR3 hW5 hne KSq KM
      rw [if_pos (by rfl)]
      go_simp
      go_wp2
      go_roundw
      case rel => exact ⟨k + 1, by go_num, by omega, HN5, HB5, hsz5⟩
      case measure => simp [intOf]; omega
end Go.Proofs.Ytmdghonefdmihad
namespace Go.Proofs.Ytmdghonefdmihad
open Go.RowKit

theorem ret_boolG {a b : Bool} (h : a = b) : Ending.returned (.bool a) = .returned (.bool b) := by rw [h]
def isIn (row ins : Int) (x : GC) : Bool := (x.row == row) && (x.ins == ins)
/-- whether a place is one of so many from a first one on -/
def amongB (x first many : Int) : Bool := decide (first ≤ x) && decide (0 < many) && decide (x - first < many)
def holdsB (row col : Int) (x : GC) : Bool := amongB row x.row x.rows && amongB col x.col x.cols

theorem lt_of_blockG {w : World} {g : Nat} {o : Obj} (h : w.heap[g]? = some o) : g < w.heap.size := (Array.getElem?_eq_some_iff.1 h).1

theorem wrap_sub {x f : Int} (hx : -9223372036854775808 ≤ x ∧ x ≤ 9223372036854775807) (hf : -9223372036854775808 ≤ f ∧ f ≤ 9223372036854775807) (h : f ≤ x) : IntKind.u64.wrap (IntKind.u64.wrap x - IntKind.u64.wrap f) = x - f := by
  simp [IntKind.wrap, IntKind.bits, IntKind.signed]
  omega

end Go.Proofs.Ytmdghonefdmihad
namespace Go.Proofs.Ytmdghonefdmihad
open Go.RowKit

theorem reaches_any (x f m : Int) (hx : I64 x) (hf : I64 f) (hm : I64 m) (w : World) :
    Calls Try.prog 59 #[.int .i64 f, .int .i64 m, .int .i64 x] w fun e w' => e = .returned (.bool (amongB x f m)) ∧ w' = w := by
  unfold I64 at hx hf hm
  by_cases h1 : f ≤ x
  · by_cases h2 : 0 < m
    · have e : amongB x f m = decide (x - f < m) := by simp [amongB]; omega
      rw [e]
      go_enter Try.func59, Try.ntmps59
      go_wp2
      go_ret
      exact ⟨ret_boolG (by rw [wrap_sub hx hf h1]), rfl⟩
    · have e : amongB x f m = false := by simp [amongB]; omega
      rw [e]
      go_enter Try.func59, Try.ntmps59
      go_wp2
      go_ret
      exact ⟨rfl, rfl⟩
  · have e : amongB x f m = false := by simp [amongB]; omega
    rw [e]
    go_enter Try.func59, Try.ntmps59
    go_wp2
    go_ret
    exact ⟨rfl, rfl⟩
end Go.Proofs.Ytmdghonefdmihad
namespace Go.Proofs.Ytmdghonefdmihad
open Go.RowKit

/-- whether a column is of a cell -/
def inCell (x : GC) (k : Nat) : Bool := amongB (k : Int) x.col x.cols
def cellV (l : List Int) (gap : Int) (x : GC) : Int := acrV (ownL l (inCell x) l.length) gap

theorem infoIc : (Try.prog.info? 3).map (fun i => (i.zero, i.size, i.bytes)) = some (some (Value.int .i64 0), 1, 8) := by kernel_rfl
/-- what an append of one number leaves -/
theorem app_keeps {w w3 w4 : World} {B n : Nat} {xs : List Value} {x : Int} {o : Value} (hB : w.heap.size ≤ B) (hO : w3.ownsRow B 3 1 o n xs) (K : Below w.heap.size w w3)
    (hg : (w3.alloc (.cells #[.int .i64 x] 3)).grownBy w4 o.ownBlock) : Below w.heap.size w w4 ∧ ∀ g, g < B → g < w3.heap.size → w4.heap[g]? = w3.heap[g]? := by
  have hA := k_alloc K (.cells #[.int .i64 x] 3)
  refine ⟨⟨hg.os.trans hA.os, hg.tape.trans hA.tape, hg.output.trans hA.output, Nat.le_trans hA.size hg.size, fun k hk => (hg.block k (Nat.lt_of_lt_of_le hk hA.size) (fun hb => ?_)).trans (hA.block k hk)⟩, fun k hk hl => (hg.block k (by simp; omega) (fun hb => ?_)).trans (Below.heap_alloc _ _ _ hl)⟩
  · have := (hO.lt k hb.symm).1
    omega
  · have := (hO.lt k hb.symm).1
    omega
theorem ownL_yes {l : List Int} {p : Nat → Bool} {k : Nat} (h : p k = true) : ownL l p (k + 1) = ownL l p k ++ [l.getD k 0] := by rw [ownL, if_pos h]
theorem ownL_no {l : List Int} {p : Nat → Bool} {k : Nat} (h : p k = false) : ownL l p (k + 1) = ownL l p k := by rw [ownL, if_neg (by rw [h]; simp)]

set_option maxRecDepth 100000 in
set_option maxHeartbeats 1000000 in
theorem implWidCell (v : Value) (l : List Int) (hl : l.length ≤ 1048576) (gap : Int) (x : GC) (hx : GOk x) (w : World) (h : IntsAt w v l) :
    Calls Try.prog 28 #[v, .int .i64 gap, .agg #[.int .i64 x.row, .int .i64 x.col, .int .i64 x.rows, .int .i64 x.cols, .int .i64 x.ins]] w fun e w' => e = .returned (.int .i64 (cellV l gap x)) ∧ Below w.heap.size w w' := by
  obtain ⟨i0, hi, hz0, hz1, hz2⟩ := info_parts infoIc
  obtain ⟨a, cap, rfl, hlen⟩ := h.form
  obtain ⟨_, b1, _, b3, _⟩ := hx
  have K0 := k_alloc (Below.refl w.heap.size w) (.cells #[.int .i64 x.row, .int .i64 x.col, .int .i64 x.rows, .int .i64 x.cols, .int .i64 x.ins] 50)
  have X0 := newestB w (.cells #[.int .i64 x.row, .int .i64 x.col, .int .i64 x.rows, .int .i64 x.cols, .int .i64 x.ins] 50)
  have H := Hid.intro h
  have HR := Hid.intro (fun (k : Nat) (hk : k ≤ 1048576) => reaches_any (k : Int) x.col x.cols (by unfold I64; omega) b1 b3)
  clear h b1 b3
  go_enter Try.func28, Try.ntmps28
  go_wp2_with fail
  go_loopw [7, 12] (fun o i W => ∃ k : Nat, i = .int .i64 k ∧ k ≤ l.length ∧ Hid (W.ownsRow (w.heap.size + 1) 3 1 o (ownL l (inCell x) k).length ((ownL l (inCell x) k).map (Value.int .i64))) ∧ Hid (Below w.heap.size w W) ∧ Hid (W.heap[w.heap.size]? = some (.cells #[.int .i64 x.row, .int .i64 x.col, .int .i64 x.rows, .int .i64 x.cols, .int .i64 x.ins] 50))) (fun _ i _ => l.length - (intOf i).toNat)
  case atStart => exact ⟨0, rfl, Nat.zero_le _, ⟨by simp [ownL], .inl ⟨rfl, rfl⟩⟩, K0, X0⟩
  case round =>
    obtain ⟨k, rfl, hk, HO, HB, HX⟩ := hrel
    have c1 : wr.cell? ⟨w.heap.size, 1, none⟩ = some (.int .i64 x.col) := cellB HX.out
    have c3 : wr.cell? ⟨w.heap.size, 3, none⟩ = some (.int .i64 x.cols) := cellB HX.out
    by_cases hlt : k < l.length
    · obtain ⟨b, off, cap', e', hc1, hc2, hbl, hy⟩ := (H.out.kept HB.out).get hlt
      simp only [Value.slice.injEq, true_and] at e'
      obtain ⟨rfl, rfl⟩ := e'
      unfold maxLen at hc2
      have KR := Hid.intro (HR.out k (by omega) wr)
      have hol := ownL_len l (inCell x) k
      cases hin : inCell x k with
      | false =>
        have HL := Hid.intro (ownL_no (l := l) hin)
        have hin' : amongB (k : Int) x.col x.cols = false := hin
        rw [hin'] at KR
        clear hin hin'
        generalize l.getD k 0 = y at hy
        go_wp2_with fail
        refine KR.out.mono ?_
        rintro e w1 ⟨rfl, rfl⟩
        go_wp2
        go_roundw
        case rel => exact ⟨k + 1, by go_num, by omega, by rw [HL.out]; exact HO, HB, HX⟩
        case measure => simp [intOf]; omega
      | true =>
        have HL := Hid.intro (ownL_yes (l := l) hin)
        have hin' : amongB (k : Int) x.col x.cols = true := hin
        rw [hin'] at KR
        clear hin hin'
        generalize l.getD k 0 = y at hy HL
        generalize ownL l (inCell x) k = xs at HO HL hol
        go_wp2_with fail
        refine KR.out.mono ?_
        rintro e w1 ⟨rfl, rfl⟩
        have hO4 := HO.out
        have hsz : w.heap.size < w1.heap.size := (Array.getElem?_eq_some_iff.1 HX.out).1
        go_wp2_with (at_builtin; refine wpList_append_own _ rfl _ _ 23 rfl (w.heap.size + 1) 3 i0 (.int .i64 0) 1 8 Try.underlying23 hi hz0 hz1 hz2 rfl (by decide) _ _ _ rfl (hO4.alloc _) ⟨w1.heap.size, 0, none⟩ 1 1 [.int .i64 y] rfl rfl ?c1 ?c2 ?c3 ?c4 ?c5 ?_)
        case c1 =>
          intro i u hi
          match i, hi with
          | 0, hi => simp at hi; subst hi; simp [Addr.add]
        case c2 => intro u hu; simp at hu; subst hu; rfl
        case c3 => unfold maxLen; omega
        case c4 => omega
        case c5 => simp; omega
        intro v' w5 hown' hgrow' _
        obtain ⟨hB5, hX5⟩ := app_keeps (Nat.le_succ _) hO4 HB.out hgrow'
        have HB5 := Hid.intro hB5
        have HX5 := Hid.intro ((hX5 w.heap.size (Nat.lt_succ_self _) (Array.getElem?_eq_some_iff.1 HX.out).1).trans HX.out)
        have HO5 : Hid (w5.ownsRow (w.heap.size + 1) 3 1 v' (xs ++ [y]).length ((xs ++ [y]).map (Value.int .i64))) := by rw [List.length_append, List.map_append]; exact hown'
        obtain ⟨g', cap'', rfl⟩ := Joins.ownsRow_form hown' (by omega)
        clear hown' hgrow' hO4 hB5 hX5 HO HB HX
        go_wp2
        go_roundw
        case rel => exact ⟨k + 1, by go_num, by omega, by rw [HL.out]; exact HO5, HB5, HX5⟩
        case measure => simp [intOf]; omega
    · obtain rfl : k = l.length := by omega
      have hI := (RowI.of_owns HO.out).at
      obtain ⟨aa, cc, rfl, _⟩ := hI.form
      have KA := Hid.intro (implacrossAll _ _ gap wr hI)
      have HV : Hid (cellV l gap x = acrV (ownL l (inCell x) l.length) gap) := rfl
      clear hI
      go_wp2_with fail
      refine KA.out.mono ?_
      rintro e w1 ⟨rfl, rfl⟩
      go_wp2
      go_ret
      exact ⟨rfl, HB.out⟩
end Go.Proofs.Ytmdghonefdmihad
namespace Go.Proofs.Ytmdghonefdmihad
open Go.RowKit

theorem sumS {l : List Int} (h : ∀ x ∈ l, 0 ≤ x ∧ x ≤ 20) : ∀ k, k ≤ l.length → 0 ≤ sumTo l k ∧ sumTo l k ≤ 20 * (k : Int)
  | 0, _ => by simp [sumTo]
  | k + 1, hk => by
    have h1 := sumS h k (by omega)
    have h2 := h l[k] (List.getElem_mem (by omega))
    have e : l.getD k 0 = l[k] := by simp [List.getD, show k < l.length by omega]
    rw [sumTo_succ (by omega), e]
    omega
theorem gapS {gap : Int} (h : -1 ≤ gap ∧ gap ≤ 4) {k : Nat} (hk : k ≤ 6) : -6 ≤ gap * (k : Int) ∧ gap * (k : Int) ≤ 24 := by
  rcases (by omega : gap = -1 ∨ gap = 0 ∨ gap = 1 ∨ gap = 2 ∨ gap = 3 ∨ gap = 4) with rfl | rfl | rfl | rfl | rfl | rfl <;> omega
theorem atS {l : List Int} (h : ∀ x ∈ l, 0 ≤ x ∧ x ≤ 20) (hl : l.length ≤ 6) {gap : Int} (hg : -1 ≤ gap ∧ gap ≤ 4) {k : Nat} (hk : k ≤ l.length) : atV l gap k = sumTo l k + gap * (k : Int) ∧ -6 ≤ atV l gap k ∧ atV l gap k ≤ 200 := by
  have h1 := sumS h k hk
  have h2 := gapS hg (show k ≤ 6 by omega)
  have e : atV l gap k = sumTo l k + gap * (k : Int) := by
    rw [atV, aheadN_nat l hk, W_small (by omega)]
  rw [e]
  omega
theorem getS {l : List Int} (h : ∀ x ∈ l, 0 ≤ x ∧ x ≤ 20) {k : Nat} (hk : k < l.length) : 0 ≤ l.getD k 0 ∧ l.getD k 0 ≤ 20 := by
  have e : l.getD k 0 = l[k] := by simp [List.getD, hk]
  rw [e]; exact h _ (List.getElem_mem hk)
theorem endS {l : List Int} (h : ∀ x ∈ l, 0 ≤ x ∧ x ≤ 20) (hl : l.length ≤ 6) {gap : Int} (hg : -1 ≤ gap ∧ gap ≤ 4) {k : Nat} (hk : k < l.length) : endV l gap k = sumTo l (k + 1) + gap * (k : Int) ∧ -6 ≤ endV l gap k ∧ endV l gap k ≤ 300 := by
  have h1 := atS h hl hg (show k ≤ l.length by omega)
  have h2 := getS h hk
  have e : endV l gap k = atV l gap k + l.getD k 0 := by
    rw [endV, if_pos (inB_true (by omega) (by omega)), Int.toNat_natCast, W_small (by omega)]
  rw [e, sumTo_succ hk]
  omega
theorem ownL_none {l : List Int} {p : Nat → Bool} : ∀ k, (∀ i, i < k → p i = false) → ownL l p k = []
  | 0, _ => rfl
  | k + 1, h => by rw [ownL, if_neg (by rw [h k (by omega)]; simp)]; exact ownL_none k (fun i hi => h i (by omega))
theorem cellV_none {l : List Int} {gap : Int} {x : GC} (h : x.cols ≤ 0) : cellV l gap x = 0 := by
  unfold cellV
  rw [ownL_none _ (fun i _ => by simp [inCell, amongB]; omega)]
  rfl
theorem own_span {l : List Int} {x : GC} {c m : Nat} (hc : x.col = c) (hm : x.cols = m) : ∀ k, k ≤ l.length → (ownL l (inCell x) k).length = min m (k - c) ∧ (ownL l (inCell x) k).sum = sumTo l (min k (c + m)) - sumTo l (min k c)
  | 0, _ => by simp [ownL, sumTo]
  | k + 1, hk => by
    obtain ⟨h1, h2⟩ := own_span (l := l) hc hm k (by omega)
    by_cases hin : c ≤ k ∧ k < c + m
    · have e : inCell x k = true := by simp [inCell, amongB, hc, hm]; omega
      rw [ownL_yes e, List.length_append, List.sum_append, h1, h2]
      have e1 : min (k + 1) (c + m) = k + 1 := by omega
      have e2 : min k (c + m) = k := by omega
      have e3 : min (k + 1) c = c := by omega
      have e4 : min k c = c := by omega
      rw [e1, e2, e3, e4, sumTo_succ (by omega)]
      simp
      omega
    · have e : inCell x k = false := by simp [inCell, amongB, hc, hm]; omega
      rw [ownL_no e, h1, h2]
      have e1 : min (k + 1) (c + m) = min k (c + m) ∨ min (k + 1) c = k + 1 := by omega
      by_cases hkc : k < c
      · have a1 : min (k + 1) (c + m) = k + 1 := by omega
        have a2 : min k (c + m) = k := by omega
        have a3 : min (k + 1) c = k + 1 := by omega
        have a4 : min k c = k := by omega
        rw [a1, a2, a3, a4]
        omega
      · have a1 : min (k + 1) (c + m) = min k (c + m) := by omega
        have a3 : min (k + 1) c = min k c := by omega
        rw [a1, a3]
        omega
theorem cellV_small {l : List Int} (h : ∀ x ∈ l, 0 ≤ x ∧ x ≤ 20) (hl : l.length ≤ 6) {gap : Int} (hg : -1 ≤ gap ∧ gap ≤ 4) {x : GC} {c m : Nat} (hc : x.col = c) (hm : x.cols = m) (h1 : 1 ≤ m) (h2 : c + m ≤ l.length) :
    cellV l gap x = endV l gap ((c : Int) + (m : Int) - 1) - atV l gap c ∧ (-9 ≤ atV l gap c ∧ atV l gap c ≤ 300) ∧ -9 ≤ endV l gap ((c : Int) + (m : Int) - 1) ∧ endV l gap ((c : Int) + (m : Int) - 1) ≤ 300 := by
  have ek : (c : Int) + (m : Int) - 1 = ((c + m - 1 : Nat) : Int) := by omega
  rw [ek]
  have hE := endS h hl hg (show c + m - 1 < l.length by omega)
  have hA := atS h hl hg (show c ≤ l.length by omega)
  obtain ⟨o1, o2⟩ := own_span (l := l) hc hm l.length (Nat.le_refl _)
  rw [show min m (l.length - c) = m by omega] at o1
  rw [show min l.length (c + m) = c + m by omega, show min l.length c = c by omega] at o2
  have hs1 := sumS h (c + m) h2
  have hs2 := sumS h c (by omega)
  have hgm := gapS hg (show m - 1 ≤ 6 by omega)
  rw [show ((m - 1 : Nat) : Int) = (m : Int) - 1 by omega] at hgm
  have e : cellV l gap x = sumTo l (c + m) - sumTo l c + gap * ((m : Int) - 1) := by
    unfold cellV
    rw [acrV_cons (by rw [o1]; omega), o1, o2, W_small (by omega)]
  refine ⟨?_, by omega, by omega⟩
  rw [e, hE.1, hA.1, show c + m - 1 + 1 = c + m by omega, show ((c + m - 1 : Nat) : Int) = (c : Int) + ((m : Int) - 1) by omega, Int.mul_add]
  omega
end Go.Proofs.Ytmdghonefdmihad
