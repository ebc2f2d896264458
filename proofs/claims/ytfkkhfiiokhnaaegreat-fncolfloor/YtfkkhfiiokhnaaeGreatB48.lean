/-
  PROVED HERE: the model's ColFloor at a drawn table; nothing that was in memory is turned. Also: the program's wideEnough at a drawn table: the list 'needTo', in memory of its own; nothing that was in memory is turned.
-/
import Derived.Test.YtfkkhfiiokhnaaeGreatB47
import Derived.Test.YtfkkhfiiokhnaaeGreatB46
import Derived.Test.YtfkkhfiiokhnaaeGreatB27
import Derived.Test.YtfkkhfiiokhnaaeGreatB15
import Derived.Test.YtfkkhfiiokhnaaeGreatB37
import Derived.Test.YtfkkhfiiokhnaaeGreatB14
import Derived.Test.YtfkkhfiiokhnaaeGreatB38
import Derived.Test.YtfkkhfiiokhnaaeGreatB35
import Derived.Test.YtfkkhfiiokhnaaeGreatB29
import Derived.Test.YtfkkhfiiokhnaaeGreatB42
import Derived.Test.YtfkkhfiiokhnaaeGreatB22
import Derived.Deep.DeepCutAuto
import Derived.Deep.RegionWith
import Derived.Deep.QuietTactic
import Derived.BigQuiet
namespace Go.Proofs.YtfkkhfiiokhnaaeGreat
open Go.RowKit

structure CfJ (ac ar ag : Option Addr) (cc cr cg : Nat) (t : T) (gp : Int) (W3 : World) (L : Nat → Bool) (W : World) (v9 v10 v11 v12 v13 v14 v15 v16 v2 : Value) : Prop where
  f0 : L 0 = true → v9 = .agg #[.slice ac t.cols.length cc, .int .i64 t.head, .int .i64 t.foot, .slice ar t.rows.length cr, .int .i64 t.gap]
  f1 : L 1 = true → v10 = .agg #[.int .i64 (gOf t).rows, .int .i64 (gOf t).cols, .slice ag (gOf t).cells.length cg]
  f2 : L 2 = true → IntsAt W v11 (leastL t)
  f3 : L 3 = true → v12 = .int .i64 (leastL t).sum
  f4 : L 4 = true → v13 = .agg #[.slice ac t.cols.length cc, .int .i64 t.head, .int .i64 t.foot, .slice ar t.rows.length cr, .int .i64 t.gap]
  f5 : L 5 = true → v14 = .agg #[.int .i64 (gOf t).rows, .int .i64 (gOf t).cols, .slice ag (gOf t).cells.length cg]
  f6 : L 6 = true → v15 = .int .i64 gp
  f7 : L 7 = true → v16 = .int .i64 ((leastL t).sum + gp)
  f8 : L 8 = true → v2 = .int .i64 ((leastL t).sum + gp)
  b : Below W3.heap.size W3 W

set_option maxRecDepth 100000 in
set_option maxHeartbeats 2000000 in
theorem specColFloor (ac ar : Option Addr) (cc cr : Nat) (t : T) (hD : Drawn t) (w : World) {z : Nat} (hc : ColsAt w z (.slice ac t.cols.length cc) t.cols) (hr : RowsAt w z (.slice ar t.rows.length cr) t.rows) :
    Calls Tryz.prog 9 #[.agg #[.slice ac t.cols.length cc, .int .i64 t.head, .int .i64 t.foot, .slice ar t.rows.length cr, .int .i64 t.gap]] w fun e w' => e = .returned (.int .i64 (acrV (leastL t) t.gap)) ∧ Below w.heap.size w w' := by
  have hmx : Tryz.prog.follows .mixedOrders = true := by kernel_rfl
  obtain ⟨W0, hW0⟩ : ∃ W0, w.alloc (.cells #[.slice ac t.cols.length cc, .int .i64 t.head, .int .i64 t.foot, .slice ar t.rows.length cr, .int .i64 t.gap] 26) = W0 := ⟨_, rfl⟩
  have K0 : Below w.heap.size w W0 := by rw [← hW0]; exact k_alloc (Below.refl _ _) _
  have X0 : W0.heap[w.heap.size]? = some (.cells #[.slice ac t.cols.length cc, .int .i64 t.head, .int .i64 t.foot, .slice ar t.rows.length cr, .int .i64 t.gap] 26) := by rw [← hW0]; exact newestB _ _
  have HP : Hid (Below w.heap.size w W0 ∧ TA W0 z ac ar cc cr t ∧ W0.heap[w.heap.size]? = some (.cells #[.slice ac t.cols.length cc, .int .i64 t.head, .int .i64 t.foot, .slice ar t.rows.length cr, .int .i64 t.gap] 26)) := ⟨K0, ⟨hc.kept K0, hr.kept K0⟩, X0⟩
  have KO := Hid.intro (specTblOk ac ar cc cr t W0 HP.out.2.1.1 HP.out.2.1.2)
  obtain ⟨b0, b1, b2, b3, b4⟩ := fiveO X0
  clear hc hr K0 X0
  cases htk : tblB t with
  | false =>
    rw [htk] at KO
    have HE : Hid (acrV (leastL t) t.gap = 0) := by rw [Hid, leastL_no htk]; rfl
    clear htk
    go_enter Tryz.func9, Tryz.ntmps9
    go_upto_region 1 with fail
    clear hW0
    go_wp2_with fail
    refine KO.out.mono ?_
    rintro e w1 ⟨rfl, hb1⟩
    have HK1 := Hid.intro (k_trans HP.out.1 hb1)
    clear hb1 KO b0 b1 b2 b3 b4 HP
    go_wp2
    go_ret
    exact ⟨by rw [HE.out]; rfl, HK1.out⟩
  | true =>
    rw [htk] at KO
    obtain ⟨hC1, hC88, hT, h0, h1, hall⟩ := acr_least hD htk
    obtain ⟨_, C0, hgc0, _, _⟩ := cel_of hD
    have hgc : (gOf t).cols = (colN t : Int) := by rw [colN_of hgc0]; exact hgc0
    have hgap : 0 ≤ t.gap ∧ t.gap ≤ 3 := by
      have hok := htk
      simp only [tblB, inB, Bool.and_eq_true, decide_eq_true_eq] at hok
      exact hok.2.2.1
    have HT := Hid.intro hT
    have HA := Hid.intro hall
    have HN : Hid ((leastL t).length ≤ 1000) := by rw [Hid, leastL_len]; omega
    rw [hT] at h0 h1
    have KG := Hid.intro (fun (ag : Option Addr) (cg : Nat) W => specl5Gaps ac ar cc cr t (gOf t).rows (.slice ag (gOf t).cells.length cg) (colN t) ⟨hC1, hC88⟩ hgap W)
    rw [← hgc] at KG
    have hgp : t.gap * ((gOf t).cols - 1) = t.gap * ((colN t : Int) - 1) := by rw [hgc]
    rw [hgp] at KG
    have KL3 := Hid.intro (fun (ag : Option Addr) (cg : Nat) W {zg : Nat} (h1 : TA W z ac ar cc cr t) (h2 : GsAt W zg (.slice ag (gOf t).cells.length cg) (gOf t).cells) => specl5Least ac ar cc cr t hD ag cg W h1.1 h1.2 h2 htk)
    have K3O := Hid.intro (fun W (h1 : TA W z ac ar cc cr t) => l3Of_g ac ar cc cr t hD htk W h1.2)
    clear hT hall hC1 hC88 hgc0 hgc hgap hgp htk hD
    generalize t.gap * ((colN t : Int) - 1) = gp at HT KG h0 h1
    have HWr : Hid (IntKind.i64.wrap ((leastL t).sum + gp) = (leastL t).sum + gp) := by unfold Hid; rw [IntKind.wrap_i64]; omega
    go_enter Tryz.func9, Tryz.ntmps9
    go_upto_region 1 with fail
    clear hW0
    go_wp2_with fail
    refine KO.out.mono ?_
    rintro e w1 ⟨rfl, hb1⟩
    have HP1 : Hid (Below w.heap.size w w1 ∧ TA w1 z ac ar cc cr t ∧ w1.heap[w.heap.size]? = some (.cells #[.slice ac t.cols.length cc, .int .i64 t.head, .int .i64 t.foot, .slice ar t.rows.length cr, .int .i64 t.gap] 26)) := ⟨k_trans HP.out.1 hb1, HP.out.2.1.kept hb1, (hb1.block _ (Array.getElem?_eq_some_iff.1 HP.out.2.2).1).trans HP.out.2.2⟩
    clear hb1 KO b0 b1 b2 b3 b4 HP
    obtain ⟨b0, b1, b2, b3, b4⟩ := fiveO HP1.out.2.2
    have l1 := (Array.getElem?_eq_some_iff.1 HP1.out.2.2).1
    go_wp2_with fail
    refine (K3O.out _ HP1.out.2.1).mono ?_
    rintro e w3 ⟨ag, cg, rfl, hG, hb3⟩
    have K3 := k_alloc (k_trans HP1.out.1 hb3) (.cells #[.int .i64 (gOf t).rows, .int .i64 (gOf t).cols, .slice ag (gOf t).cells.length cg] 36)
    have HTA := Hid.intro ((HP1.out.2.1.kept hb3).kept (k_alloc (Below.refl _ _) (.cells #[.int .i64 (gOf t).rows, .int .i64 (gOf t).cols, .slice ag (gOf t).cells.length cg] 36)))
    have HGs := Hid.intro (hG.kept (k_alloc (Below.refl _ _) (.cells #[.int .i64 (gOf t).rows, .int .i64 (gOf t).cols, .slice ag (gOf t).cells.length cg] 36)))
    have HX : Hid ((w3.alloc (.cells #[.int .i64 (gOf t).rows, .int .i64 (gOf t).cols, .slice ag (gOf t).cells.length cg] 36)).heap[w.heap.size]? = some (.cells #[.slice ac t.cols.length cc, .int .i64 t.head, .int .i64 t.foot, .slice ar t.rows.length cr, .int .i64 t.gap] 26)) := (Below.heap_alloc _ _ _ (Nat.lt_of_lt_of_le l1 hb3.size)).trans ((hb3.block _ l1).trans HP1.out.2.2)
    have HY : Hid ((w3.alloc (.cells #[.int .i64 (gOf t).rows, .int .i64 (gOf t).cols, .slice ag (gOf t).cells.length cg] 36)).heap[w3.heap.size]? = some (.cells #[.int .i64 (gOf t).rows, .int .i64 (gOf t).cols, .slice ag (gOf t).cells.length cg] 36)) := newestB _ _
    have HK3 := Hid.intro K3
    clear hG hb3 K3 b0 b1 b2 b3 b4 l1 HP1 K3O
    go_upto_region 4 with fail
    generalize w3.alloc (.cells #[.int .i64 (gOf t).rows, .int .i64 (gOf t).cols, .slice ag (gOf t).cells.length cg] 36) = W3 at HTA HGs HX HY HK3 ⊢
    generalize w3.heap.size = gb at HGs HY ⊢
    have KL := Hid.intro (fun W (h : Below W3.heap.size W3 W) => KL3.out ag cg W (HTA.out.kept h) (HGs.out.kept h))
    have KG := Hid.intro (fun W => KG.out ag cg W)
    have hl0 := (Array.getElem?_eq_some_iff.1 HX.out).1
    have hlg := (Array.getElem?_eq_some_iff.1 HY.out).1
    clear KL3
    refine wp_region_inv2 (fun L act W => ∃ v9 v10 v11 v12 v13 v14 v15 v16 v2 : Value, act = ⟨#[.agg #[.slice ac t.cols.length cc, .int .i64 t.head, .int .i64 t.foot, .slice ar t.rows.length cr, .int .i64 t.gap], .pointer (some ⟨w.heap.size, 0, none⟩), v2, .pointer (some ⟨gb, 0, none⟩), .agg #[.slice ac t.cols.length cc, .int .i64 t.head, .int .i64 t.foot, .slice ar t.rows.length cr, .int .i64 t.gap], .bool true, .bool false, .agg #[.slice ac t.cols.length cc, .int .i64 t.head, .int .i64 t.foot, .slice ar t.rows.length cr, .int .i64 t.gap], .agg #[.int .i64 (gOf t).rows, .int .i64 (gOf t).cols, .slice ag (gOf t).cells.length cg], v9, v10, v11, v12, v13, v14, v15, v16], []⟩ ∧ CfJ ac ar ag cc cr cg t gp W3 L W v9 v10 v11 v12 v13 v14 v15 v16 v2) hmx (by kernel_rfl) ?hs ?hd ?h0
    case h0 => exact ⟨_, _, _, _, _, _, _, _, _, rfl, ⟨(fun h => by cases h), (fun h => by cases h), (fun h => by cases h), (fun h => by cases h), (fun h => by cases h), (fun h => by cases h), (fun h => by cases h), (fun h => by cases h), (fun h => by cases h), k_drew (Below.refl _ _)⟩⟩
    case hd =>
      intro L act W hJ hall
      obtain ⟨v9, v10, v11, v12, v13, v14, v15, v16, v2, ha, J⟩ := hJ
      subst ha
      obtain rfl := J.f8 (hall 8 (by decide))
      have HB := Hid.intro (k_trans HK3.out J.b)
      clear J hall
      go_wp2
      go_ret
      exact ⟨by rw [HT.out]; rfl, HB.out⟩
    case hs =>
      intro L act W i o hJ hcl ho hLi haft K hK
      obtain ⟨v9, v10, v11, v12, v13, v14, v15, v16, v2, ha, J⟩ := hJ
      subst ha
      have hi' : i < 9 := by
        have := (Array.getElem?_eq_some_iff.1 ho).1
        simpa using this
      rcases (by omega : i = 0 ∨ i = 1 ∨ i = 2 ∨ i = 3 ∨ i = 4 ∨ i = 5 ∨ i = 6 ∨ i = 7 ∨ i = 8) with rfl | rfl | rfl | rfl | rfl | rfl | rfl | rfl | rfl
      all_goals
        simp only [List.getElem?_toArray, List.getElem?_cons_zero, List.getElem?_cons_succ, Option.some.injEq] at ho
        subst ho
        clear hi'
      · skip
        obtain ⟨q0, q1, q2, q3, q4⟩ := fiveO ((J.b.block _ hl0).trans HX.out)
        have hl := Nat.lt_of_lt_of_le hl0 J.b.size
        go_simp
        exact hK _ _ ⟨_, _, _, _, _, _, _, _, _, rfl, ⟨(fun _ => rfl), (fun h => J.f1 (un h)), (fun h => J.f2 (un h)), (fun h => J.f3 (un h)), (fun h => J.f4 (un h)), (fun h => J.f5 (un h)), (fun h => J.f6 (un h)), (fun h => J.f7 (un h)), (fun h => J.f8 (un h)), J.b⟩⟩
      · skip
        obtain ⟨q0, q1, q2⟩ := threeO ((J.b.block _ hlg).trans HY.out)
        have hl := Nat.lt_of_lt_of_le hlg J.b.size
        go_simp
        exact hK _ _ ⟨_, _, _, _, _, _, _, _, _, rfl, ⟨(fun h => J.f0 (un h)), (fun _ => rfl), (fun h => J.f2 (un h)), (fun h => J.f3 (un h)), (fun h => J.f4 (un h)), (fun h => J.f5 (un h)), (fun h => J.f6 (un h)), (fun h => J.f7 (un h)), (fun h => J.f8 (un h)), J.b⟩⟩
      · skip
        obtain rfl := J.f0 (haft ⟨0, .data⟩ (by simp) rfl)
        obtain rfl := J.f1 (haft ⟨1, .data⟩ (by simp) rfl)
        go_simp
        go_wp2_with (go_at_call 34; refine (KL.out W J.b).mono ?_; rintro e W2 ⟨v, rfl, hR, hb⟩; have hI := hR.at; clear hR)
        exact ⟨_, _, _, _, _, _, _, _, _, rfl, ⟨(fun h => J.f0 (un h)), (fun h => J.f1 (un h)), (fun _ => hI), (fun h => J.f3 (un h)), (fun h => J.f4 (un h)), (fun h => J.f5 (un h)), (fun h => J.f6 (un h)), (fun h => J.f7 (un h)), (fun h => J.f8 (un h)), k_trans J.b hb⟩⟩
      · skip
        have hI := J.f2 (haft ⟨2, .data⟩ (by simp) rfl)
        obtain ⟨aq, cq, rfl, _⟩ := hI.form
        go_simp
        go_wp2_with (go_at_call 33; refine (specl1Sum_any _ (leastL t) HN.out HA.out W hI).mono ?_; rintro e W2 ⟨rfl, hE⟩; have hb : Below W.heap.size W W2 := (hE ▸ Below.refl _ _); clear hE)
        exact ⟨_, _, _, _, _, _, _, _, _, rfl, ⟨(fun h => J.f0 (un h)), (fun h => J.f1 (un h)), (fun h => (J.f2 (un h)).kept hb), (fun _ => rfl), (fun h => J.f4 (un h)), (fun h => J.f5 (un h)), (fun h => J.f6 (un h)), (fun h => J.f7 (un h)), (fun h => J.f8 (un h)), k_trans J.b hb⟩⟩
      · skip
        obtain ⟨q0, q1, q2, q3, q4⟩ := fiveO ((J.b.block _ hl0).trans HX.out)
        have hl := Nat.lt_of_lt_of_le hl0 J.b.size
        go_simp
        exact hK _ _ ⟨_, _, _, _, _, _, _, _, _, rfl, ⟨(fun h => J.f0 (un h)), (fun h => J.f1 (un h)), (fun h => J.f2 (un h)), (fun h => J.f3 (un h)), (fun _ => rfl), (fun h => J.f5 (un h)), (fun h => J.f6 (un h)), (fun h => J.f7 (un h)), (fun h => J.f8 (un h)), J.b⟩⟩
      · skip
        obtain ⟨q0, q1, q2⟩ := threeO ((J.b.block _ hlg).trans HY.out)
        have hl := Nat.lt_of_lt_of_le hlg J.b.size
        go_simp
        exact hK _ _ ⟨_, _, _, _, _, _, _, _, _, rfl, ⟨(fun h => J.f0 (un h)), (fun h => J.f1 (un h)), (fun h => J.f2 (un h)), (fun h => J.f3 (un h)), (fun h => J.f4 (un h)), (fun _ => rfl), (fun h => J.f6 (un h)), (fun h => J.f7 (un h)), (fun h => J.f8 (un h)), J.b⟩⟩
      · skip
        obtain rfl := J.f4 (haft ⟨4, .data⟩ (by simp) rfl)
        obtain rfl := J.f5 (haft ⟨5, .data⟩ (by simp) rfl)
        go_simp
        go_wp2_with (go_at_call 35; refine (KG.out W).mono ?_; rintro e W2 ⟨rfl, hb⟩)
        exact ⟨_, _, _, _, _, _, _, _, _, rfl, ⟨(fun h => J.f0 (un h)), (fun h => J.f1 (un h)), (fun h => (J.f2 (un h)).kept hb), (fun h => J.f3 (un h)), (fun h => J.f4 (un h)), (fun h => J.f5 (un h)), (fun _ => rfl), (fun h => J.f7 (un h)), (fun h => J.f8 (un h)), k_trans J.b hb⟩⟩
      · skip
        obtain rfl := J.f3 (haft ⟨3, .data⟩ (by simp) rfl)
        obtain rfl := J.f6 (haft ⟨6, .data⟩ (by simp) rfl)
        go_simp
        exact hK _ _ ⟨_, _, _, _, _, _, _, _, _, rfl, ⟨(fun h => J.f0 (un h)), (fun h => J.f1 (un h)), (fun h => J.f2 (un h)), (fun h => J.f3 (un h)), (fun h => J.f4 (un h)), (fun h => J.f5 (un h)), (fun h => J.f6 (un h)), (fun _ => by rw [HWr.out]), (fun h => J.f8 (un h)), J.b⟩⟩
      · skip
        obtain rfl := J.f7 (haft ⟨7, .data⟩ (by simp) rfl)
        go_simp
        exact hK _ _ ⟨_, _, _, _, _, _, _, _, _, rfl, ⟨(fun h => J.f0 (un h)), (fun h => J.f1 (un h)), (fun h => J.f2 (un h)), (fun h => J.f3 (un h)), (fun h => J.f4 (un h)), (fun h => J.f5 (un h)), (fun h => J.f6 (un h)), (fun h => J.f7 (un h)), (fun _ => rfl), J.b⟩⟩
end Go.Proofs.YtfkkhfiiokhnaaeGreat
namespace Go.Proofs.YtfkkhfiiokhnaaeGreat
open Go.RowKit Go.BigFrame

set_option maxRecDepth 100000 in
set_option maxHeartbeats 1000000 in
theorem wideEnough_TxtLeast (nd : ByteArray → Int) (hnd : ∀ s, 0 ≤ nd s ∧ nd s ≤ 30) (KN : ∀ (s : ByteArray) (W : World), s.size ≤ maxLen → Calls Tryz.prog 24 #[.string s] W fun e w' => e = .returned (.int .i64 (nd s)) ∧ Below W.heap.size W w')
    (ac ar : Option Addr) (cc cr : Nat) (t : T) (hD : Drawn t) (w : World) {z : Nat} (hc : ColsAt w z (.slice ac t.cols.length cc) t.cols) (hr : RowsAt w z (.slice ar t.rows.length cr) t.rows) (C : Nat) (hgc : (gOf t).cols = C) :
    Calls Tryz.prog 40 #[.agg #[.slice ac t.cols.length cc, .int .i64 t.head, .int .i64 t.foot, .slice ar t.rows.length cr, .int .i64 t.gap], .func (.func 24) #[] #[]] w fun e w' => ∃ v, e = .returned v ∧ RowI w' w.heap.size w'.heap.size v (needTo (fun x => nd (textOf t x)) t.gap (gOf t).cells (zeroL C) 4) ∧ Below w.heap.size w w' := by
  obtain ⟨h40, C', hgc', hC88, hcel⟩ := cel_of hD
  obtain rfl : C' = C := by rw [hgc'] at hgc; omega
  have K0 := k_alloc (Below.refl w.heap.size w) (.cells #[.slice ac t.cols.length cc, .int .i64 t.head, .int .i64 t.foot, .slice ar t.rows.length cr, .int .i64 t.gap] 26)
  have HN := Hid.intro KN
  have HCel := Hid.intro hcel
  have HDr := Hid.intro hD
  have HGC := Hid.intro hgc'
  have hup := need_up (p := fun x => nd (textOf t x)) (l := zeroL C') hcel h40 (by simp [zeroL]) (fun x => (hnd _).2) (zero_up _)
  have HUp := Hid.intro hup
  have hps := fun s hs => pass_up (p := fun x => nd (textOf t x)) (s := ((s + 1 : Nat) : Int)) (l := needTo (fun x => nd (textOf t x)) t.gap (gOf t).cells (zeroL C') s) hcel (by rw [needTo_len]; simp [zeroL]) (fun x => (hnd _).2) (hup s hs)
  have HPs := Hid.intro hps
  have HT := Hid.intro (And.intro (hc.kept K0) (hr.kept K0))
  have HX := Hid.intro (newestB w (.cells #[.slice ac t.cols.length cc, .int .i64 t.head, .int .i64 t.foot, .slice ar t.rows.length cr, .int .i64 t.gap] 26))
  have HK := Hid.intro K0
  have hmk := makeI C' (by omega)
  have hmx : Tryz.prog.follows .mixedOrders = true := by kernel_rfl
  clear hcel hD hup hps hc hr K0 KN hgc' hgc
  go_enter Tryz.func40, Tryz.ntmps40
  go_wp2_with fail
  refine (implGrdOf ac ar cc cr t HDr.out _ HT.out.1 HT.out.2).mono ?_
  rintro e w2 ⟨vg, rfl, hO2, hb2⟩
  obtain ⟨ag, cg, rfl⟩ := own_slice hO2
  have hG2 := hO2.at (gOf_gok HDr.out)
  have HW : Hid (Ws w z w2.heap.size ac ar cc cr t ag cg (w2.alloc (.cells #[.int .i64 (gOf t).rows, .int .i64 (gOf t).cols, .slice ag (gOf t).cells.length cg] 36))) :=
    ⟨k_alloc (k_trans HK.out hb2) _, ⟨(HT.out.1.kept hb2).kept (k_alloc (Below.refl _ _) _), (HT.out.2.kept hb2).kept (k_alloc (Below.refl _ _) _)⟩, (Below.heap_alloc _ _ _ (Nat.lt_of_lt_of_le (by simp) hb2.size)).trans ((hb2.block w.heap.size (by simp)).trans HX.out), (hG2.base (by simp)).kept (k_alloc (Below.refl _ _) _), newestB _ _⟩
  have hz2 : w.heap.size < w2.heap.size := Nat.lt_of_lt_of_le (by simp) hb2.size
  clear hO2 hb2 hG2 HT HX HK
  go_upto_region 2 with fail
  generalize hW3 : w2.alloc (.cells #[.int .i64 (gOf t).rows, .int .i64 (gOf t).cols, .slice ag (gOf t).cells.length cg] 36) = W3 at HW ⊢
  have hz3 : W3.heap.size = w2.heap.size + 1 := by rw [← hW3]; simp
  clear hW3
  obtain ⟨y0, y1, y2, y3⟩ := HW.out.at
  rw [HGC.out] at y2
  go_wp2_with fail
  clear hmk y0 y1 y2 y3
  have S0 : Hid (RowI (W3.alloc (.cells (newI C') 3)) (w2.heap.size + 1) (w2.heap.size + 2) (.slice (some ⟨w2.heap.size + 1, 0, none⟩) C' C') (zeroL C')) := by have h := row_new W3 C' (by omega); rw [hz3] at h; exact h
  go_loopw [7] (fun s W => ∃ m : Nat, s = .int .i64 ((m : Int) + 1) ∧ m ≤ 4 ∧ Hid (RowI W (w2.heap.size + 1) (w2.heap.size + 2) (.slice (some ⟨w2.heap.size + 1, 0, none⟩) C' C') (needTo (fun x => nd (textOf t x)) t.gap (gOf t).cells (zeroL C') m)) ∧ Hid (Below W3.heap.size W3 W) ∧ W3.heap.size < W.heap.size) (fun s _ => 5 - (intOf s).toNat)
  case atStart => exact ⟨0, rfl, by omega, S0, k_alloc (Below.refl _ _) _, by simp⟩
  case round =>
    clear S0
    obtain ⟨m, rfl, hm, HR, HB, hsz⟩ := hrel
    by_cases hlt : m < 4
    case neg =>
      obtain rfl : m = 4 := by omega
      have hK := Hid.intro (HW.out.1.trans (HB.out.mono (by omega)))
      have HF := Hid.intro (HR.out.base (B' := w.heap.size) (D' := wr.heap.size) (by omega) (by omega))
      go_wp2
      go_ret
      exact ⟨_, rfl, HF.out, hK.out⟩
    have HWr := Hid.intro (HW.out.kept HB.out)
    obtain ⟨y0, y1, y2, y3⟩ := HWr.out.at
    rw [HGC.out] at y2
    go_wp2_with fail
    clear y0 y1 y2 y3 HWr
    have HUm := Hid.intro (HPs.out m (by omega) (by omega))
    rw [show decide ((m : Int) + 1 ≤ 4) = true by simp; omega]
    go_loopw [22] (fun s W => ∃ k : Nat, s = .int .i64 k ∧ k ≤ (gOf t).cells.length ∧ Hid (RowI W (w2.heap.size + 1) (w2.heap.size + 2) (.slice (some ⟨w2.heap.size + 1, 0, none⟩) C' C') (passTo (fun x => nd (textOf t x)) t.gap ((m + 1 : Nat) : Int) (gOf t).cells (needTo (fun x => nd (textOf t x)) t.gap (gOf t).cells (zeroL C') m) k)) ∧ Hid (Below W3.heap.size W3 W) ∧ W3.heap.size < W.heap.size) (fun s _ => (gOf t).cells.length - (intOf s).toNat)
    case atStart => exact ⟨0, rfl, Nat.zero_le _, HR, HB, hsz⟩
    case round =>
      clear HR HB hsz
      obtain ⟨k, rfl, hk, HR, HB, hsz⟩ := hrel
      by_cases hkl : k < (gOf t).cells.length
      case neg =>
        obtain rfl : k = (gOf t).cells.length := by omega
        go_wp2
        go_roundw
        case rel => exact ⟨m + 1, by go_num, by omega, HR, HB, hsz⟩
        case measure => simp [intOf]; omega
      have HWr := Hid.intro (HW.out.kept HB.out)
      obtain ⟨b, off, cap', e', hc1, hc2, hbl, hx, _⟩ := At.get HWr.out.2.2.2.1 hkl
      simp only [Value.slice.injEq, true_and] at e'
      obtain ⟨rfl, rfl⟩ := e'
      unfold maxLen at hc2
      have HCe := Hid.intro (HCel.out k hkl)
      obtain ⟨⟨rn, jn, cn, mn, e1, e2, e3, e4, h1, h2, h3, h4, h5⟩, hgp, hrs⟩ := HCel.out k hkl
      have HSz : Hid ((textOf t ((gOf t).cells.getD k dG)).size ≤ maxLen) := text_size HCe.out HWr.out.2.1.2
      have hub := HUm.out k hk
      have HNo : Hid ((mn : Int) ≠ ((m + 1 : Nat) : Int) → passTo (fun x => nd (textOf t x)) t.gap ((m + 1 : Nat) : Int) (gOf t).cells (needTo (fun x => nd (textOf t x)) t.gap (gOf t).cells (zeroL C') m) (k + 1) = passTo (fun x => nd (textOf t x)) t.gap ((m + 1 : Nat) : Int) (gOf t).cells (needTo (fun x => nd (textOf t x)) t.gap (gOf t).cells (zeroL C') m) k) := fun h => by rw [passTo, if_neg (by rw [e4]; exact h)]
      have HYes : Hid ((mn : Int) = ((m + 1 : Nat) : Int) → passTo (fun x => nd (textOf t x)) t.gap ((m + 1 : Nat) : Int) (gOf t).cells (needTo (fun x => nd (textOf t x)) t.gap (gOf t).cells (zeroL C') m) (k + 1) = wideL (passTo (fun x => nd (textOf t x)) t.gap ((m + 1 : Nat) : Int) (gOf t).cells (needTo (fun x => nd (textOf t x)) t.gap (gOf t).cells (zeroL C') m) k) cn mn t.gap (nd (textOf t ((gOf t).cells.getD k dG)))) := fun h => by rw [passTo, if_pos (by rw [e4]; exact h), e3, e4, Int.toNat_natCast, Int.toNat_natCast]
      have hpl := passTo_len (fun x => nd (textOf t x)) t.gap ((m + 1 : Nat) : Int) (gOf t).cells (needTo (fun x => nd (textOf t x)) t.gap (gOf t).cells (zeroL C') m) k
      rw [needTo_len, show (zeroL C').length = C' by simp [zeroL]] at hpl
      generalize (gOf t).cells.getD k dG = x at hx e1 e2 e3 e4 HYes hrs HCe HSz
      generalize hL : passTo (fun x => nd (textOf t x)) t.gap ((m + 1 : Nat) : Int) (gOf t).cells (needTo (fun x => nd (textOf t x)) t.gap (gOf t).cells (zeroL C') m) k = L at HR HNo HYes hub hpl
      clear hL
      have HKT := Hid.intro (fun (W : World) (hR : RowsAt W z (.slice ar t.rows.length cr) t.rows) => impltextOf ac ar cc cr t x HCe.out W hR)
      simp only [e1, e2, e3, e4] at HKT
      obtain ⟨x0, x1, x2, x3, x4⟩ := hx
      rw [e1] at x0
      rw [e2] at x4
      rw [e3] at x1
      rw [e4] at x3
      by_cases hms : (mn : Int) = (m : Int) + 1
      case neg =>
        have hmb : ((mn : Int) == (m : Int) + 1) = false := by simpa using hms
        have HL := Hid.intro (HNo.out (by omega))
        clear HNo HYes e1 e2 e3 e4 hms
        go_wp2
        go_roundw
        case rel => exact ⟨k + 1, by go_num, by omega, by rw [HL.out]; exact HR.out.kept (fun j h0 _ _ => Below.heap_alloc _ _ _ h0), k_alloc HB.out _, by simp; omega⟩
        case measure => simp [intOf]; omega
      obtain rfl : mn = m + 1 := by omega
      have HL := Hid.intro (HYes.out rfl)
      have hmb : ((m : Int) + 1 == (m : Int) + 1) = true := by simp
      have hcast : ((m + 1 : Nat) : Int) = (m : Int) + 1 := by omega
      rw [hcast] at x3
      simp only [hcast] at HKT
      clear hcast
      clear HNo HYes e1 e2 e3 e4 hms
      go_upto_region 10 with fail
      have HW4 : Hid (Ws w z w2.heap.size ac ar cc cr t (some ⟨b, off, none⟩) cg (wr.alloc (.cells #[.int .i64 (rn : Int), .int .i64 (cn : Int), .int .i64 x.rows, .int .i64 ((m : Int) + 1), .int .i64 (jn : Int)] 49))) := HWr.out.kept (k_alloc (Below.refl _ _) _)
      have HB4 := Hid.intro (k_alloc HB.out (.cells #[.int .i64 (rn : Int), .int .i64 (cn : Int), .int .i64 x.rows, .int .i64 ((m : Int) + 1), .int .i64 (jn : Int)] 49))
      have HR4 := Hid.intro (HR.out.kept (fun j h0 _ _ => Below.heap_alloc wr (.cells #[.int .i64 (rn : Int), .int .i64 (cn : Int), .int .i64 x.rows, .int .i64 ((m : Int) + 1), .int .i64 (jn : Int)] 49) j h0))
      have HX4 := Hid.intro (newestB wr (.cells #[.int .i64 (rn : Int), .int .i64 (cn : Int), .int .i64 x.rows, .int .i64 ((m : Int) + 1), .int .i64 (jn : Int)] 49))
      have hsz4 : W3.heap.size < (wr.alloc (.cells #[.int .i64 (rn : Int), .int .i64 (cn : Int), .int .i64 x.rows, .int .i64 ((m : Int) + 1), .int .i64 (jn : Int)] 49)).heap.size := by simp; omega
      generalize wr.alloc (.cells #[.int .i64 (rn : Int), .int .i64 (cn : Int), .int .i64 x.rows, .int .i64 ((m : Int) + 1), .int .i64 (jn : Int)] 49) = W4 at HW4 HB4 HR4 HX4 hsz4 ⊢
      generalize wr.heap.size = cb at HX4 ⊢
      clear HWr HR HB hsz x0 x1 x2 x3 x4 hbl
      have q1 : W4.cell? ⟨cb, 1, none⟩ = some (.int .i64 (cn : Int)) := cellB HX4.out
      have hcb : cb < W4.heap.size := (Array.getElem?_eq_some_iff.1 HX4.out).1
      have htb : w.heap.size < W4.heap.size := (Array.getElem?_eq_some_iff.1 HW4.out.2.2.1).1
      obtain ⟨y0, y1, y2, y3⟩ := HW4.out.at
      obtain ⟨t3, t4, t5, t6, t10, t11, t12, t13⟩ := slice_facts h3 hC88
      have hne := bw_some W4
      have g0 := bw_cell (a := ⟨cb, 0, none⟩) hcb (cellB (p := 0) HX4.out)
      have g1 := bw_cell (a := ⟨cb, 1, none⟩) hcb (cellB (p := 1) HX4.out)
      have g2 := bw_cell (a := ⟨cb, 2, none⟩) hcb (cellB (p := 2) HX4.out)
      have g3 := bw_cell (a := ⟨cb, 3, none⟩) hcb (cellB (p := 3) HX4.out)
      have g4 := bw_cell (a := ⟨cb, 4, none⟩) hcb (cellB (p := 4) HX4.out)
      have b0 := bw_cell (a := ⟨w.heap.size, 0, none⟩) htb (cellB (p := 0) HW4.out.2.2.1)
      have b1 := bw_cell (a := ⟨w.heap.size, 1, none⟩) htb (cellB (p := 1) HW4.out.2.2.1)
      have b2 := bw_cell (a := ⟨w.heap.size, 2, none⟩) htb (cellB (p := 2) HW4.out.2.2.1)
      have b3 := bw_cell (a := ⟨w.heap.size, 3, none⟩) htb (cellB (p := 3) HW4.out.2.2.1)
      have b4 := bw_cell (a := ⟨w.heap.size, 4, none⟩) htb (cellB (p := 4) HW4.out.2.2.1)
      have KT := Hid.intro (fun (p : BW W4) => bw_of ((HKT.out p.u (HW4.out.kept p.h).2.1.2).mono (fun _ _ ⟨h1, _, h2⟩ => And.intro h1 h2)))
      have KND := Hid.intro (fun (p : BW W4) => bw_of (HN.out (textOf t x) p.u HSz.out))
      have KW := Hid.intro (fun W => widen_any (w2.heap.size + 1) (w2.heap.size + 2) (w2.heap.size + 1) C' C' L (fun i hi => by have := hub i hi; omega) cn (m + 1) (by rw [hpl]; exact h3) ⟨h4, h5⟩ t.gap (nd (textOf t x)) hgp (hnd (textOf t x)) W)
      clear y0 y1 y2 y3 q1
      refine wp_region_last 15 hmx (by rfl) (by rfl) (by kernel_rfl) (by kernel_rfl) ?_
      simp only [List.take_succ_cons, List.take_zero]
      repeat (go_big_quiet_step (first | (go_at_call 59; refine KT.out _) | (go_at_call 24; refine KND.out _)))
      refine wpQuiet_nil ?_
      intro W5 hw'
      obtain ⟨⟨Wx, hW5⟩, hw''⟩ := hw'
      subst hw''
      have HB5 := Hid.intro (HB4.out.trans (hW5.mono (Nat.le_of_lt hsz4)))
      have HR5 := Hid.intro (HR4.out.kept (fun j h0 _ _ => hW5.block j h0))
      have hsz5 : W3.heap.size < W5.heap.size := Nat.lt_of_lt_of_le hsz4 hW5.size
      clear g0 g1 g2 g3 g4 b0 b1 b2 b3 b4 KT KND HKT HW4 HB4 HR4 HX4 hsz4 hW5 hne
      rw [if_pos (by rfl)]
      go_simp
      go_wp2_with (go_at_call 73; refine (KW.out W5 HR5.out (by omega)).mono ?_; rintro e w7 ⟨rfl, hr7, hk7⟩; have HR7 := Hid.intro hr7; have HB7 := Hid.intro (HB5.out.trans (hk7.below (Nat.le_of_lt hsz5) (by omega))); have hsz7 : W3.heap.size < w7.heap.size := Nat.lt_of_lt_of_le hsz5 hk7.size; clear hr7 hk7)
      go_roundw
      case rel => exact ⟨k + 1, by go_num, by omega, by rw [HL.out]; exact HR7.out, HB7, hsz7⟩
      case measure => simp [intOf]; omega
end Go.Proofs.YtfkkhfiiokhnaaeGreat
