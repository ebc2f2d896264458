/-
  PROVED HERE: DrawColAllFixed draws a table; nothing that was in memory is turned. Also: the law FnColSaid returns true at every two codes that lie in memory.
-/
import Derived.Test.YtfkkhfiiokhnaaeB41
import Derived.Test.YtfkkhfiiokhnaaeB17
import Derived.Test.YtfkkhfiiokhnaaeB40
import Derived.Test.YtfkkhfiiokhnaaeB34
import Derived.Test.YtfkkhfiiokhnaaeB35
import Derived.Test.YtfkkhfiiokhnaaeB7
import Derived.Laws.StructEq
namespace Go.Proofs.Ytfkkhfiiokhnaae
open Go.RowKit

theorem IsCode.keptA {w w' : World} {a : Option Addr} {len cap : Nat} (h : IsCode w a len cap) (hb : Below w.heap.size w w') : IsCode w' a len cap := by
  obtain ⟨h1, h2, hc⟩ := h
  refine ⟨h1, h2, fun i hi => ?_⟩
  obtain ⟨b, off, z, e, l, c, z0, z1⟩ := hc i hi
  exact ⟨b, off, z, e, Nat.lt_of_lt_of_le l hb.size, (hb.cell (p := ⟨b, off + i, none⟩) l).trans c, z0, z1⟩
set_option maxRecDepth 100000 in
set_option maxHeartbeats 2000000 in
theorem drawColAllFixed_any (a : Option Addr) (len cap : Nat) (w : World) (h : IsCode w a len cap) :
    Calls Try.prog 18 #[.slice a len cap] w fun e w' => ∃ (ac ar : Option Addr) (cc cr : Nat) (t : T), e = .returned (.agg #[.slice ac t.cols.length cc, .int .i64 t.head, .int .i64 t.foot, .slice ar t.rows.length cr, .int .i64 t.gap]) ∧ Drawn t ∧
      ColsAt w' w.heap.size (.slice ac t.cols.length cc) t.cols ∧ RowsAt w' w.heap.size (.slice ar t.rows.length cr) t.rows ∧ Below w.heap.size w w' := by
  have K0 := k_alloc (Below.refl w.heap.size w) (.cells #[.slice none 0 0, .int .i64 0, .int .i64 0, .slice none 0 0, .int .i64 0] 26)
  have HC := Hid.intro (h.keptA K0)
  have X0 := newestB w (.cells #[.slice none 0 0, .int .i64 0, .int .i64 0, .slice none 0 0, .int .i64 0] 26)
  clear h
  have hsz : (w.alloc (.cells #[.slice none 0 0, .int .i64 0, .int .i64 0, .slice none 0 0, .int .i64 0] 26)).heap.size = w.heap.size + 1 := by simp
  go_enter Try.func18, Try.ntmps18
  go_wp2_with fail
  refine (open_any _ _ _ _ HC.out).mono ?_
  rintro e w1 ⟨rfl, hR1, hb1⟩
  rw [hsz] at hR1 hb1
  have X1 := (hb1.block w.heap.size (by omega)).trans X0
  have K1 := k_trans K0 (by rw [hsz]; exact hb1)
  have hz1 := hR1.lt
  go_wp2_with fail
  refine (l20AnyTable_any (w.heap.size + 1) 0 12 (by omega) _ hR1 (by omega)).mono ?_
  rintro e w2 ⟨ac, ar, cc, cr, t, rfl, hD, hC2, hW2, hR2, hb2⟩
  have hz2 := hb2.size
  have X2 := (hb2.block w.heap.size (by omega) (by omega)).trans X1
  have K2 := K1.trans (hb2.below (by omega) (by omega))
  have HT : Hid ((w2.alloc (.cells #[.slice ac t.cols.length cc, .int .i64 t.head, .int .i64 t.foot, .slice ar t.rows.length cr, .int .i64 t.gap] 26)).heap[w2.heap.size]? = some (.cells #[.slice ac t.cols.length cc, .int .i64 t.head, .int .i64 t.foot, .slice ar t.rows.length cr, .int .i64 t.gap] 26)) := newestB _ _
  have HX : Hid ((w2.alloc (.cells #[.slice ac t.cols.length cc, .int .i64 t.head, .int .i64 t.foot, .slice ar t.rows.length cr, .int .i64 t.gap] 26)).heap[w.heap.size]? = some (.cells #[.slice none 0 0, .int .i64 0, .int .i64 0, .slice none 0 0, .int .i64 0] 26)) := (Below.heap_alloc _ _ _ (by omega)).trans X2
  have HK : Hid (Below w.heap.size w (w2.alloc (.cells #[.slice ac t.cols.length cc, .int .i64 t.head, .int .i64 t.foot, .slice ar t.rows.length cr, .int .i64 t.gap] 26))) := k_alloc K2 _
  have HC3 := Hid.intro ((hC2.base (z' := w.heap.size + 2) (by omega)).kept (k_alloc (Below.refl _ _) (.cells #[.slice ac t.cols.length cc, .int .i64 t.head, .int .i64 t.foot, .slice ar t.rows.length cr, .int .i64 t.gap] 26)))
  have HW3 := Hid.intro ((hW2.base (z' := w.heap.size + 2) (by omega)).kept (k_alloc (Below.refl _ _) (.cells #[.slice ac t.cols.length cc, .int .i64 t.head, .int .i64 t.foot, .slice ar t.rows.length cr, .int .i64 t.gap] 26)))
  have HR := Hid.intro (hR2.alloc (.cells #[.slice ac t.cols.length cc, .int .i64 t.head, .int .i64 t.foot, .slice ar t.rows.length cr, .int .i64 t.gap] 26))
  have HD := Hid.intro hD
  have hw2 : w.heap.size + 2 ≤ w2.heap.size := by omega
  clear hC2 hW2 hR2 hb2 X2 X1 X0 K0 K1 K2 hD HC hR1 hb1 hz1 hz2
  go_upto_region 3 with fail
  have hlW : w2.heap.size < (w2.alloc (.cells #[.slice ac t.cols.length cc, .int .i64 t.head, .int .i64 t.foot, .slice ar t.rows.length cr, .int .i64 t.gap] 26)).heap.size := by simp
  generalize w2.alloc (.cells #[.slice ac t.cols.length cc, .int .i64 t.head, .int .i64 t.foot, .slice ar t.rows.length cr, .int .i64 t.gap] 26) = W2 at HT HX HK HC3 HW3 HR hlW ⊢
  generalize w2.heap.size = tb at HT hw2 hlW ⊢
  go_wp2_with fail
  refine (pick_any _ _ _ _ HR.out (by omega)).mono ?_
  rintro e w3 ⟨k, rfl, _, hR3, hb3⟩
  have hz3 := hb3.size
  have HT3 := Hid.intro ((hb3.block tb (by omega) (by omega)).trans HT.out)
  have HX3 := Hid.intro ((hb3.block w.heap.size (by omega) (by omega)).trans HX.out)
  have HK3 := Hid.intro (HK.out.trans (hb3.below HK.out.size (by omega)))
  have hsi : Since (w.heap.size + 2) W2 w3 := ⟨hb3.size, fun k hk hl => hb3.block k hl (by omega)⟩
  have HC4 := Hid.intro (HC3.out.since hsi)
  have HW4 := Hid.intro (HW3.out.since hsi)
  have HR3 := Hid.intro hR3
  have hl3 : tb < w3.heap.size := by omega
  clear hR3 hb3 hsi HT HX HK HC3 HW3 HR
  obtain ⟨⟨t0, t1, t2, t3, t4⟩, _⟩ := fiveZ HT3.out
  obtain ⟨⟨x0, x1, x2, x3, x4⟩, y0, y1, y2, y3, y4⟩ := fiveZ HX3.out
  by_cases h0 : k = 0
  · subst h0
    have hl1 : w.heap.size < w3.heap.size := by omega
    go_wp2_with fail
    refine (l20AllFixed_any _ _ ac ar cc cr t HD.out _ HR3.out (by omega) HC4.out HW4.out).mono ?_
    rintro e w4 ⟨ad, cd, ps, rfl, hps, hC5, hR5, hb5⟩
    have hz4 := hb5.size
    have X5 := (hb5.block w.heap.size (by omega) (by omega)).trans HX3.out
    obtain ⟨⟨x0, x1, x2, x3, x4⟩, y0, y1, y2, y3, y4⟩ := fiveZ X5
    have hsi : Since (w.heap.size + 2) w3 w4 := ⟨hb5.size, fun k hk hl => hb5.block k hl (by omega)⟩
    have HC6 := Hid.intro ((hC5.base (z' := w.heap.size + 2) (by omega)).since (Since.st5a (z := w.heap.size + 2) (g := w.heap.size) (by omega) (.slice ad ps.length cd) (.int .i64 t.head) (.int .i64 t.foot) (.slice ar t.rows.length cr) (.int .i64 t.gap)))
    have HW6 := Hid.intro ((HW4.out.since hsi).since (Since.st5a (z := w.heap.size + 2) (g := w.heap.size) (by omega) (.slice ad ps.length cd) (.int .i64 t.head) (.int .i64 t.foot) (.slice ar t.rows.length cr) (.int .i64 t.gap)))
    have K6 := Hid.intro ((HK3.out.trans (hb5.below HK3.out.size (by omega))).trans ((st5_bk w4 w.heap.size (.slice ad ps.length cd) (.int .i64 t.head) (.int .i64 t.foot) (.slice ar t.rows.length cr) (.int .i64 t.gap)).below (by omega) (Nat.le_refl _)))
    have HDp : Hid (Drawn ⟨ps, t.head, t.foot, t.rows, t.gap⟩) := ⟨HD.out.rows, by show ps.length ≤ 9; omega, HD.out.head, HD.out.foot, HD.out.gap, HD.out.cells, HD.out.few⟩
    clear hC5 hR5 hb5 X5 hsi HC4 HW4 HR3 HK3 t0 t1 t2 t3 t4 HT3 HX3
    go_wp2
    exact bodyPost_ret (v := .agg #[.slice ad ps.length cd, .int .i64 t.head, .int .i64 t.foot, .slice ar t.rows.length cr, .int .i64 t.gap]) (by simp [results, Try.results18, go_sem, x0, x1, x2, x3, x4]) rfl ⟨ad, ar, cd, cr, ⟨ps, t.head, t.foot, t.rows, t.gap⟩, rfl, HDp.out, HC6.out.base (by omega), HW6.out.base (by omega), K6.out⟩
  · have hne : (k == 0) = false := beq_eq_false_iff_ne.2 h0
    have HC6 := Hid.intro (HC4.out.since (Since.st5a (z := w.heap.size + 2) (g := w.heap.size) (by omega) (.slice ac t.cols.length cc) (.int .i64 t.head) (.int .i64 t.foot) (.slice ar t.rows.length cr) (.int .i64 t.gap)))
    have HW6 := Hid.intro (HW4.out.since (Since.st5a (z := w.heap.size + 2) (g := w.heap.size) (by omega) (.slice ac t.cols.length cc) (.int .i64 t.head) (.int .i64 t.foot) (.slice ar t.rows.length cr) (.int .i64 t.gap)))
    have K6 := Hid.intro (HK3.out.trans ((st5_bk w3 w.heap.size (.slice ac t.cols.length cc) (.int .i64 t.head) (.int .i64 t.foot) (.slice ar t.rows.length cr) (.int .i64 t.gap)).below (by omega) (Nat.le_refl _)))
    have hl1 : w.heap.size < w3.heap.size := by omega
    clear HC4 HW4 HR3 HK3 HT3 HX3 h0
    go_wp2
    exact bodyPost_ret (v := .agg #[.slice ac t.cols.length cc, .int .i64 t.head, .int .i64 t.foot, .slice ar t.rows.length cr, .int .i64 t.gap]) (by simp [results, Try.results18, go_sem, x0, x1, x2, x3, x4]) rfl ⟨ac, ar, cc, cr, t, rfl, HD.out, HC6.out.base (by omega), HW6.out.base (by omega), K6.out⟩
end Go.Proofs.Ytfkkhfiiokhnaae
namespace Go.Proofs.Ytfkkhfiiokhnaae
open Go.RowKit Go.BigFrame

/-- two tables in their boxes, and what is said of a column -/
structure SC (w : World) (tb cb ub : Nat) (ac ar ac2 ar2 : Option Addr) (cc cr cc2 cr2 : Nat) (t u : T) (p : Int × Int) (W : World) : Prop where
  s : St w tb ac ar cc cr t W
  c : W.heap[cb]? = some (.cells #[.int .i64 p.1, .int .i64 p.2] 46)
  u : St w ub ac2 ar2 cc2 cr2 u W
theorem SC.kept {w W W' : World} {tb cb ub : Nat} {ac ar ac2 ar2 : Option Addr} {cc cr cc2 cr2 : Nat} {t u : T} {p : Int × Int} (h : SC w tb cb ub ac ar ac2 ar2 cc cr cc2 cr2 t u p W) (hb : Below W.heap.size W W') : SC w tb cb ub ac ar ac2 ar2 cc cr cc2 cr2 t u p W' :=
  ⟨h.s.kept hb, (hb.block cb (Array.getElem?_eq_some_iff.1 h.c).1).trans h.c, h.u.kept hb⟩
theorem IsCode.keptL {w w' : World} {a : Option Addr} {len cap : Nat} (h : IsCode w a len cap) (hb : Below w.heap.size w w') : IsCode w' a len cap := h.keptC hb
/-- whether of the first so many columns a width is said -/
def fixTo1 (u : T) (k : Nat) : Bool := tblB u && (List.range k).all (fun j => kindP u 1 j)
theorem fixTo1_step (u : T) (k : Nat) : fixTo1 u (k + 1) = (fixTo1 u k && kindP u 1 k) := by simp [fixTo1, List.range_succ, Bool.and_assoc]
theorem fixTo1_false {u : T} {k C : Nat} (hk : k ≤ C) (h : fixTo1 u k = false) : fixTo1 u C = false := by
  induction C with
  | zero => obtain rfl : k = 0 := by omega
            exact h
  | succ C ih =>
    by_cases hc : k = C + 1
    · rw [← hc]; exact h
    · rw [fixTo1_step, ih (by omega)]; rfl
set_option maxRecDepth 100000 in
set_option maxHeartbeats 4000000 in
theorem lawColSaid_walk (A B : Option Addr) (len cap len2 cap2 : Nat) (hlen : len ≤ 1048576) (hlen2 : len2 ≤ 1048576) (w : World) (h : IsCode w A len cap) (h2 : IsCode w B len2 cap2) :
    Calls Try.prog 4 #[.slice A len cap, .slice B len2 cap2] w fun e w' => e = .returned (.bool true) ∧ Below w.heap.size w w' := by
  have hl : ¬ (1048576 : Int) < (len : Int) := by omega
  have hl2 : ¬ (1048576 : Int) < (len2 : Int) := by omega
  have hmx : Try.prog.follows .mixedOrders = true := by kernel_rfl
  have hf0 := field0
  have hf1 := fieldG1
  have HD := Hid.intro h
  have HD2 := Hid.intro h2
  clear h h2
  go_enter Try.func4, Try.ntmps4
  go_wp2_with fail
  refine (drawColSaid_any _ _ _ _ HD.out).mono ?_
  rintro e w1 ⟨ac, ar, cc, cr, t, q, rfl, hD, hq, hC1, hW1, hb1⟩
  have HS : Hid (St w w1.heap.size ac ar cc cr t (w1.alloc (.cells #[.slice ac t.cols.length cc, .int .i64 t.head, .int .i64 t.foot, .slice ar t.rows.length cr, .int .i64 t.gap] 26))) := ⟨hb1.alloc hb1.size _, TA.kept ⟨hC1, hW1⟩ (k_alloc (Below.refl _ _) _), newestB _ _⟩
  clear hC1 hW1 hb1 HD hD
  go_upto_region 4 with fail
  generalize w1.alloc (.cells #[.slice ac t.cols.length cc, .int .i64 t.head, .int .i64 t.foot, .slice ar t.rows.length cr, .int .i64 t.gap] 26) = W1 at HS ⊢
  generalize w1.heap.size = tb at HS ⊢
  obtain ⟨z0, z1, z2, z3, z4⟩ := HS.out.at
  have HKs := Hid.intro (fun W (h : TA W w.heap.size ac ar cc cr t) => specColSaid ac ar cc cr t q W h.1 h.2)
  have HOs := Hid.intro (fun W (h : TA W w.heap.size ac ar cc cr t) => specTblOk ac ar cc cr t W h.1 h.2)
  go_wp2_with fail
  refine (implColSaid ac ar cc cr t q _ HS.out.2.1.1 HS.out.2.1.2).mono ?_
  generalize hp : sdT t q = p at HKs ⊢
  have Hp := Hid.intro hp
  clear hp
  rintro e w2 ⟨rfl, hb2⟩
  have HS2 := Hid.intro ((HS.out.kept hb2).kept (k_alloc (Below.refl _ _) (.cells #[.int .i64 p.1, .int .i64 p.2] 46)))
  have HC2 : Hid ((w2.alloc (.cells #[.int .i64 p.1, .int .i64 p.2] 46)).heap[w2.heap.size]? = some (.cells #[.int .i64 p.1, .int .i64 p.2] 46)) := newestB _ _
  clear hb2 HS z0 z1 z2 z3 z4
  go_upto_region 5 with fail
  generalize w2.alloc (.cells #[.int .i64 p.1, .int .i64 p.2] 46) = W2 at HS2 HC2 ⊢
  generalize w2.heap.size = cb at HC2 ⊢
  go_wp2_with fail
  refine (drawColAllFixed_any _ _ _ _ (HD2.out.keptL HS2.out.1)).mono ?_
  rintro e w3 ⟨ac2, ar2, cc2, cr2, u, rfl, hDu, hC3, hW3, hb3⟩
  have hz3 := HS2.out.1.size
  have HS3 : Hid (SC w tb cb w3.heap.size ac ar ac2 ar2 cc cr cc2 cr2 t u p (w3.alloc (.cells #[.slice ac2 u.cols.length cc2, .int .i64 u.head, .int .i64 u.foot, .slice ar2 u.rows.length cr2, .int .i64 u.gap] 26))) :=
    ⟨(HS2.out.kept hb3).kept (k_alloc (Below.refl _ _) _), (Below.heap_alloc _ _ _ (Nat.lt_of_lt_of_le (Array.getElem?_eq_some_iff.1 HC2.out).1 hb3.size)).trans ((hb3.block cb (Array.getElem?_eq_some_iff.1 HC2.out).1).trans HC2.out),
     ⟨k_alloc (k_trans HS2.out.1 hb3) _, TA.kept ⟨hC3.base hz3, hW3.base hz3⟩ (k_alloc (Below.refl _ _) _), newestB _ _⟩⟩
  have HFi := Hid.intro (fun W (h : TA W w.heap.size ac2 ar2 cc2 cr2 u) => implColAllFixed ac2 ar2 cc2 cr2 u hDu W h.1 h.2)
  have HFs := Hid.intro (fun W (h : TA W w.heap.size ac2 ar2 cc2 cr2 u) => specColAllFixed ac2 ar2 cc2 cr2 u hDu W h.1 h.2)
  have HOu := Hid.intro (fun W (h : TA W w.heap.size ac2 ar2 cc2 cr2 u) => specTblOk ac2 ar2 cc2 cr2 u W h.1 h.2)
  have HSu := Hid.intro (fun (k : Nat) W (h : TA W w.heap.size ac2 ar2 cc2 cr2 u) => implColSaid ac2 ar2 cc2 cr2 u (k : Int) W h.1 h.2)
  have HGu : Hid (∃ C : Nat, (gOf u).cols = (C : Int) ∧ C ≤ 88 ∧ (tblB u && allFix u) = fixTo1 u C) := by
    obtain ⟨_, C, hgc, hC, _⟩ := cel_of hDu
    exact ⟨C, hgc, hC, by unfold fixTo1 allFix; rw [colN_of hgc]⟩
  obtain ⟨C, hgc, hC88, hfx⟩ := HGu.out
  have HGi : Hid (∀ W, TA W w.heap.size ac2 ar2 cc2 cr2 u → Calls Try.prog 12 #[.agg #[.slice ac2 u.cols.length cc2, .int .i64 u.head, .int .i64 u.foot, .slice ar2 u.rows.length cr2, .int .i64 u.gap]] W fun e w' => ∃ a b : Value, e = .returned (.agg #[a, .int .i64 (C : Int), b]) ∧ Below W.heap.size W w') := fun W h => (implGrdOf ac2 ar2 cc2 cr2 u hDu W h.1 h.2).mono (fun e w' ⟨vg, h1, _, h3⟩ => by rw [hgc] at h1; exact ⟨_, _, h1, h3⟩)
  rw [hfx] at HFi HFs
  clear hDu hC3 hW3 hb3 hz3 HD2 HS2 HC2 HGu hgc hfx
  go_upto_region 6 with fail
  generalize w3.alloc (.cells #[.slice ac2 u.cols.length cc2, .int .i64 u.head, .int .i64 u.foot, .slice ar2 u.rows.length cr2, .int .i64 u.gap] 26) = W3 at HS3 ⊢
  generalize w3.heap.size = ub at HS3 ⊢
  have hne := bw_some W3
  have htb := (Array.getElem?_eq_some_iff.1 HS3.out.s.2.2).1
  have hub := (Array.getElem?_eq_some_iff.1 HS3.out.u.2.2).1
  have hcb := (Array.getElem?_eq_some_iff.1 HS3.out.c).1
  have m0 := bw_cell (a := ⟨tb, 0, none⟩) htb (cellB (p := 0) HS3.out.s.2.2)
  have m1 := bw_cell (a := ⟨tb, 1, none⟩) htb (cellB (p := 1) HS3.out.s.2.2)
  have m2 := bw_cell (a := ⟨tb, 2, none⟩) htb (cellB (p := 2) HS3.out.s.2.2)
  have m3 := bw_cell (a := ⟨tb, 3, none⟩) htb (cellB (p := 3) HS3.out.s.2.2)
  have m4 := bw_cell (a := ⟨tb, 4, none⟩) htb (cellB (p := 4) HS3.out.s.2.2)
  have o0 := bw_cell (a := ⟨ub, 0, none⟩) hub (cellB (p := 0) HS3.out.u.2.2)
  have o1 := bw_cell (a := ⟨ub, 1, none⟩) hub (cellB (p := 1) HS3.out.u.2.2)
  have o2 := bw_cell (a := ⟨ub, 2, none⟩) hub (cellB (p := 2) HS3.out.u.2.2)
  have o3 := bw_cell (a := ⟨ub, 3, none⟩) hub (cellB (p := 3) HS3.out.u.2.2)
  have o4 := bw_cell (a := ⟨ub, 4, none⟩) hub (cellB (p := 4) HS3.out.u.2.2)
  have n0 := bw_cell (a := ⟨cb, 0, none⟩) hcb (cellB (p := 0) HS3.out.c)
  have n1 := bw_cell (a := ⟨cb, 1, none⟩) hcb (cellB (p := 1) HS3.out.c)
  have k1 := Hid.intro (fun (b : BW W3) => bw_of (HKs.out b.u (HS3.out.kept b.h).s.2.1))
  have k2 := Hid.intro (fun (b : BW W3) => bw_of (HFi.out b.u (HS3.out.kept b.h).u.2.1))
  have k3 := Hid.intro (fun (b : BW W3) => bw_of (HFs.out b.u (HS3.out.kept b.h).u.2.1))
  obtain ⟨fb, hfb⟩ : ∃ fb, fixTo1 u C = fb := ⟨_, rfl⟩
  rw [hfb] at k2 k3
  have hbb : (fb != fb) = false := by simp
  have Hfb := Hid.intro hfb
  clear hfb
  refine wp_region_quiet_below hmx (by kernel_rfl) ?_
  repeat (go_big_quiet_step (first | (go_at_call 19; refine k1.out _) | (go_at_call 20; refine k2.out _) | (go_at_call 21; refine k3.out _)))
  refine wpQuiet_nil ?_
  intro W5 hw'
  obtain ⟨⟨Wx, hW5⟩, hw''⟩ := hw'
  subst hw''
  have HS5 := Hid.intro (HS3.out.kept hW5)
  clear k1 k2 k3 m0 m1 m2 m3 m4 o0 o1 o2 o3 o4 n0 n1 hne htb hub hcb hW5 HS3 HKs HFs
  go_upto_region 8 with fail
  go_cut [79] (fun s W => s = .bool false ∧ Hid (SC w tb cb ub ac ar ac2 ar2 cc cr cc2 cr2 t u p W))
  case first => as_aux_lemma =>
    have hne := bw_some W5
    have htb := (Array.getElem?_eq_some_iff.1 HS5.out.s.2.2).1
    have hcb := (Array.getElem?_eq_some_iff.1 HS5.out.c).1
    have m0 := bw_cell (a := ⟨tb, 0, none⟩) htb (cellB (p := 0) HS5.out.s.2.2)
    have m1 := bw_cell (a := ⟨tb, 1, none⟩) htb (cellB (p := 1) HS5.out.s.2.2)
    have m2 := bw_cell (a := ⟨tb, 2, none⟩) htb (cellB (p := 2) HS5.out.s.2.2)
    have m3 := bw_cell (a := ⟨tb, 3, none⟩) htb (cellB (p := 3) HS5.out.s.2.2)
    have m4 := bw_cell (a := ⟨tb, 4, none⟩) htb (cellB (p := 4) HS5.out.s.2.2)
    have n0 := bw_cell (a := ⟨cb, 0, none⟩) hcb (cellB (p := 0) HS5.out.c)
    have n1 := bw_cell (a := ⟨cb, 1, none⟩) hcb (cellB (p := 1) HS5.out.c)
    have k1 := Hid.intro (fun (b : BW W5) => bw_of (HOs.out b.u (HS5.out.kept b.h).s.2.1))
    have hpe : tblB t = true → p = sd t.cols q := fun h => by rw [← Hp.out]; unfold sdT; rw [if_pos h]
    have HPe := Hid.intro hpe
    clear hpe
    cases htk : tblB t with
    | false =>
      rw [htk] at k1
      clear htk HPe
      refine wp_region_quiet_below hmx (by kernel_rfl) ?_
      repeat (go_big_quiet_step (first | (go_at_call 10; refine k1.out _)))
      refine wpQuiet_nil ?_
      intro W6 hw'
      obtain ⟨⟨Wx, hW6⟩, hw''⟩ := hw'
      subst hw''
      have HS6 := Hid.intro (HS5.out.kept hW6)
      clear hW6
      go_wp2_with fail
      go_meet
      case rel => exact ⟨rfl, HS6⟩
    | true =>
      rw [htk] at k1
      have hpp := HPe.out htk
      clear htk HPe
      by_cases hq0 : q < 0
      case pos =>
        have hq1 : decide (0 ≤ q) = false := decide_eq_false (by omega)
        have hq2 : decide ((t.cols.length : Int) ≤ q) = false := decide_eq_false (by omega)
        clear hpp
        refine wp_region_quiet_below hmx (by kernel_rfl) ?_
        repeat (go_big_quiet_step (first | (go_at_call 10; refine k1.out _)))
        refine wpQuiet_nil ?_
        intro W6 hw'
        obtain ⟨⟨Wx, hW6⟩, hw''⟩ := hw'
        subst hw''
        have HS6 := Hid.intro (HS5.out.kept hW6)
        clear hW6
        go_wp2_with fail
        go_meet
        case rel => exact ⟨rfl, HS6⟩
      case neg =>
        obtain ⟨k, rfl⟩ := Int.eq_ofNat_of_zero_le (show 0 ≤ q by omega)
        by_cases hk : k < t.cols.length
        · obtain ⟨b, off, cap', e', hc1, hc2, hbl, hy0, hy1⟩ := At.get HS5.out.s.2.1.1 hk
          simp only [Value.slice.injEq, true_and] at e'
          obtain ⟨rfl, rfl⟩ := e'
          unfold maxLen at hc2
          rw [sd_yes hk] at hpp
          rw [← hpp] at hy0 hy1
          clear hpp
          have my0 := bw_cell hbl hy0
          have my1 := bw_cell hbl hy1
          have hk1 : (k : Int) < (t.cols.length : Int) := by omega
          have hk2 : ¬ (t.cols.length : Int) ≤ (k : Int) := by omega
          clear hy0 hy1
          refine wp_region_quiet_below hmx (by kernel_rfl) ?_
          repeat (go_big_quiet_step (first | (go_at_call 10; refine k1.out _)))
          refine wpQuiet_nil ?_
          intro W6 hw'
          obtain ⟨⟨Wx, hW6⟩, hw''⟩ := hw'
          subst hw''
          have HS6 := Hid.intro (HS5.out.kept hW6)
          clear hW6
          go_wp2_with fail
          go_meet
          case rel => exact ⟨rfl, HS6⟩
        · obtain rfl : p = (0, 0) := by rw [hpp]; exact sd_no (inB_false (by omega))
          have hk1 : ¬ (k : Int) < (t.cols.length : Int) := by omega
          have hk2 : (t.cols.length : Int) ≤ (k : Int) := by omega
          clear hpp
          refine wp_region_quiet_below hmx (by kernel_rfl) ?_
          repeat (go_big_quiet_step (first | (go_at_call 10; refine k1.out _)))
          refine wpQuiet_nil ?_
          intro W6 hw'
          obtain ⟨⟨Wx, hW6⟩, hw''⟩ := hw'
          subst hw''
          have HS6 := Hid.intro (HS5.out.kept hW6)
          clear hW6
          go_wp2_with fail
          go_meet
          case rel => exact ⟨rfl, HS6⟩
  case rest => as_aux_lemma =>
    clear HS5
    obtain ⟨rfl, HS6⟩ := hcut
    obtain ⟨z0, z1, z2, z3, z4⟩ := HS6.out.u.at
    go_wp2_with fail
    refine (HOu.out _ HS6.out.u.2.1).mono ?_
    rintro e w7 ⟨rfl, hb7⟩
    have HS7 := Hid.intro (HS6.out.kept hb7)
    clear hb7 z0 z1 z2 z3 z4 HS6
    obtain ⟨z0, z1, z2, z3, z4⟩ := HS7.out.u.at
    go_wp2_with fail
    refine (HGi.out _ HS7.out.u.2.1).mono ?_
    rintro e w8 ⟨ga, gb, rfl, hb8⟩
    have HS8 := Hid.intro (HS7.out.kept hb8)
    clear hb8 z0 z1 z2 z3 z4 HS7
    have HF0 : Hid (fixTo1 u 0 = tblB u) := by simp [Hid, fixTo1]
    rw [← HF0.out]
    go_wp2_with fail
    go_loopw [9, 11] (fun s i W => ∃ k : Nat, k ≤ C ∧ i = .int .i64 k ∧ s = .bool (fixTo1 u k) ∧ Hid (SC w tb cb ub ac ar ac2 ar2 cc cr cc2 cr2 t u p W)) (fun _ i _ => C - (intOf i).toNat)
    case atStart => exact ⟨0, Nat.zero_le _, rfl, rfl, HS8⟩
    case round =>
      obtain ⟨k, hk, rfl, rfl, HSr⟩ := hrel
      have HEnd : Hid (k = C ∨ fixTo1 u k = false → fb = fixTo1 u k) := fun h => by
        rw [← Hfb.out]
        rcases h with rfl | h
        · rfl
        · rw [h]; exact fixTo1_false hk h
      have hst := fixTo1_step u k
      by_cases hlt : k < C
      · cases hfk : fixTo1 u k with
        | false =>
          have hfe := HEnd.out (.inr hfk)
          rw [hfk] at hfe
          have KF := Hid.intro (HFi.out wr HSr.out.u.2.1)
          rw [Hfb.out, hfe] at KF
          obtain ⟨z0, z1, z2, z3, z4⟩ := HSr.out.u.at
          clear hst HEnd hfk
          go_wp2_with fail
          refine KF.out.mono ?_
          rintro e w9 ⟨rfl, hb9⟩
          have HK := Hid.intro (HSr.out.kept hb9).s.1
          clear hb9 z0 z1 z2 z3 z4
          go_wp2_with fail
          refine (pwOk_any _).mono ?_
          rintro e wa ⟨rfl, rfl⟩
          go_wp2
          go_ret
          exact ⟨rfl, HK.out⟩
        | true =>
          have htk : tblB u = true := by unfold fixTo1 at hfk; simp at hfk; exact hfk.1
          have KS := Hid.intro (HSu.out k wr HSr.out.u.2.1)
          have hsd : sdT u (k : Int) = sd u.cols (k : Int) := by unfold sdT; rw [if_pos htk]
          rw [hsd] at KS
          rw [hfk, Bool.true_and] at hst
          have HST : Hid (fixTo1 u (k + 1) = ((sd u.cols (k : Int)).1 == 1)) := by rw [Hid, hst, kindP, Bool.eq_iff_iff]; simp
          obtain ⟨z0, z1, z2, z3, z4⟩ := HSr.out.u.at
          clear hst HEnd hfk htk hsd
          generalize sd u.cols (k : Int) = v at KS HST
          go_wp2_with fail
          refine KS.out.mono ?_
          rintro e w9 ⟨rfl, hb9⟩
          have HS9 := Hid.intro (HSr.out.kept hb9)
          clear hb9 z0 z1 z2 z3 z4
          go_wp2
          go_roundw
          case rel => exact ⟨k + 1, by omega, by go_num, by rw [HST.out], HS9⟩
          case measure => simp [intOf]; omega
      · obtain rfl : k = C := by omega
        have hfe := HEnd.out (.inl rfl)
        have KF := Hid.intro (HFi.out wr HSr.out.u.2.1)
        obtain ⟨z0, z1, z2, z3, z4⟩ := HSr.out.u.at
        generalize fixTo1 u k = fk at KF ⊢
        have hee : (fk == fk) = true := by simp
        clear hst HEnd hfe
        go_wp2_with fail
        refine KF.out.mono ?_
        rintro e w9 ⟨rfl, hb9⟩
        have HK := Hid.intro (HSr.out.kept hb9).s.1
        clear hb9 z0 z1 z2 z3 z4
        go_wp2_with fail
        refine (pwOk_any _).mono ?_
        rintro e wa ⟨rfl, rfl⟩
        go_wp2
        go_ret
        exact ⟨rfl, HK.out⟩

theorem lawColSaid (a : Option Addr) (len cap : Nat) (b : Option Addr) (len2 cap2 : Nat) (w : World) (h : IsCode w a len cap) (h2 : IsCode w b len2 cap2) :
    Calls Try.prog 4 #[.slice a len cap, .slice b len2 cap2] w fun e w' => e = .returned (.bool true) ∧ Below w.heap.size w w' := by
  by_cases hl : len ≤ 1048576
  · by_cases hl2 : len2 ≤ 1048576
    · exact lawColSaid_walk a b len cap len2 cap2 hl hl2 w h h2
    · have hl' : ¬ (1048576 : Int) < (len : Int) := by omega
      have hl2' : (1048576 : Int) < (len2 : Int) := by omega
      clear h h2
      go_enter Try.func4, Try.ntmps4
      go_wp2
      go_ret
      exact ⟨rfl, Below.refl _ _⟩
  · have hl' : (1048576 : Int) < (len : Int) := by omega
    clear h h2
    go_enter Try.func4, Try.ntmps4
    go_wp2
    go_ret
    exact ⟨rfl, Below.refl _ _⟩
end Go.Proofs.Ytfkkhfiiokhnaae
