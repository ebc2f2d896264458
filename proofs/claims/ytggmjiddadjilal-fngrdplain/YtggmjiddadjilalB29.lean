/-
  PROVED HERE: the law FnGrdPlain returns true at every code that lies in memory.
-/
import Derived.Test.YtggmjiddadjilalB26
import Derived.Test.YtggmjiddadjilalB19
import Derived.Test.YtggmjiddadjilalB28
import Derived.Test.YtggmjiddadjilalB24
import Derived.Test.YtggmjiddadjilalB15
import Derived.Test.YtggmjiddadjilalB13
import Derived.Test.YtggmjiddadjilalB12
import Derived.Test.YtggmjiddadjilalB5
import Derived.Deep.DeepCutAuto
import Derived.Deep.RegionWith
namespace Go.Proofs.Ytggmjiddadjilal
open Go.RowKit

theorem ownT_at {p : T} (hD : Drawn p) {W : World} {B : Nat} {vc vr : Value} (h : OwnT W B vc vr p) : ColsAt W B vc p.cols ∧ RowsAt W B vr p.rows := by
  obtain ⟨ur, hur, hoc, hor⟩ := h
  refine ⟨hoc.at, ?_⟩
  rw [← hur]
  refine hor.at (fun q hq x hx => (hD.cells q.2 ?_ x hx).1)
  rw [← hur]
  exact List.mem_map.2 ⟨q, hq, rfl⟩
theorem grid_few40 {t : T} (hD : Drawn t) : (gOf t).cells.length ≤ 40 := by
  unfold gOf
  split
  · next h => exact Nat.le_trans (grid_len (low_of h hD) t.rows.length) (by have := (low_of h hD).rows; omega)
  · exact Nat.zero_le _
theorem gp_facts {t : T} (hD : Drawn t) (hok : tblB t = true) :
    (∀ k, k < (gOf (plT t)).cells.length → ((gOf (plT t)).cells.getD k dG).col = ((gOf (plT t)).cells.getD k dG).ins ∧ ((gOf (plT t)).cells.getD k dG).rows = 1 ∧ 0 ≤ ((gOf (plT t)).cells.getD k dG).ins ∧ ((gOf (plT t)).cells.getD k dG).ins ≤ 100)
    ∧ mostTo (gOf (plT t)).cells (gOf (plT t)).cells.length = (gOf (plT t)).cols
    ∧ (((blocksL ⟨(gOf (plT t)).rows, (gOf (plT t)).cols, (gOf (plT t)).cells⟩).length : Int) == (gOf (plT t)).rows) = true := by
  have hD' := plT_drawn hD
  have hok' := plT_ok hok
  have hl := low_of hok' hD'
  have hb := tblB_bounds hok'
  have hg : gOf (plT t) = ⟨(plT t).rows.length, colsOf (max 1 ((plT t).cols.length : Int)) (gridOf (plT t)), gridOf (plT t)⟩ := by unfold gOf; rw [if_pos hok']
  have hp : ∀ r ∈ (plT t).rows, ∀ x ∈ r.cells, x.c = 1 ∧ x.r = 1 := fun r hr x hx => by
    obtain ⟨r0, _, rfl⟩ := List.mem_map.1 hr
    obtain ⟨x0, _, rfl⟩ := List.mem_map.1 hx
    exact ⟨rfl, rfl⟩
  have h5 : ∀ r, ((plT t).rows.getD r dR).cells.length ≤ 5 := fun r => by
    obtain ⟨k, hk⟩ := hD'.few
    have := hk r
    split at this <;> omega
  have hG := pl_gridTo hl hp h5 (plT t).rows.length (Nat.le_refl _)
  have hstand : ∀ a ∈ gridOf (plT t), a.ins ≤ 100 := fun a ha => by
    have := (part_grid hl (plT t).rows.length (Nat.le_refl _)).stands a ha
    have h := this.1
    unfold Stands at h
    omega
  have hmem : ∀ k, k < (gridOf (plT t)).length → (gridOf (plT t)).getD k dG ∈ gridOf (plT t) := fun k hk => getD_mem' hk
  have hokg : okB ⟨(plT t).rows.length, colsOf (max 1 ((plT t).cols.length : Int)) (gridOf (plT t)), gridOf (plT t)⟩ = true := gridOf_ok hl (by omega) (Nat.zero_le _)
  rw [hg]
  refine ⟨fun k hk => ?_, ?_, ?_⟩
  · have h := hG.each _ (hmem k hk)
    exact ⟨h.2.2.1, h.1, h.2.2.2.1, hstand _ (hmem k hk)⟩
  · have e := most_cols (gs := gridOf (plT t)) (fun a ha => ⟨(hG.each a ha).2.1, (hG.each a ha).2.2.1⟩) 1
    unfold mostTo
    rw [List.take_length]
    exact e
  · rw [blocksL_ok hokg]
    have hall : ∀ r : Nat, crossS (gridOf (plT t)) (r : Int) = false := fun r => by
      unfold crossS
      rw [List.any_eq_false]
      intro a ha
      have h := (hG.each a ha).1
      unfold overS
      simp only [Bool.and_eq_true, decide_eq_true_eq]
      omega
    have hlen : (blocksTo (gridOf (plT t)) (plT t).rows.length).length = (plT t).rows.length := by
      unfold blocksTo
      rw [List.length_map, List.filter_eq_self.2 (fun r _ => by rw [hall]; rfl), List.length_range]
    rw [Int.toNat_natCast, hlen]
    exact beq_self_eq_true _
structure GpJ (w : World) (xb gb : Nat) (a1 a2 ag : Option Addr) (c2 cg : Nat) (p : T) (W3 : World) (L : Nat → Bool) (W : World) (v26 v27 v28 v29 v30 : Value) : Prop where
  f0 : L 0 = true → v26 = .agg #[.int .i64 (gOf p).rows, .int .i64 (gOf p).cols, .slice ag (gOf p).cells.length cg]
  f1 : L 1 = true → v27 = .agg #[.slice a1 p.cols.length 0, .int .i64 p.head, .int .i64 p.foot, .slice a2 p.rows.length c2, .int .i64 p.gap]
  f2 : L 2 = true → ∃ vg z, v28 = .agg #[.int .i64 (gOf p).rows, .int .i64 (gOf p).cols, vg] ∧ GsAt W z vg (gOf p).cells
  f3 : L 3 = true → v29 = .bool true
  f4 : L 4 = true → v30 = .bool false
  b : Below W3.heap.size W3 W
structure GpK (w : World) (xb gb : Nat) (a1 a2 ag : Option Addr) (c2 cg : Nat) (p : T) (bls : List Int) (W3 : World) (L : Nat → Bool) (W : World) (v69 v70 v71 v72 v73 v74 v75 v76 v77 v78 v79 v80 v2 : Value) : Prop where
  f0 : L 0 = true → v69 = .pointer (some ⟨gb, 1, none⟩)
  f1 : L 1 = true → v70 = .int .i64 (gOf p).cols
  f2 : L 2 = true → v71 = .int .i64 (gOf p).cols
  f3 : L 3 = true → v72 = .bool true
  f4 : L 4 = true → v73 = .bool true
  f5 : L 5 = true → v74 = .agg #[.int .i64 (gOf p).rows, .int .i64 (gOf p).cols, .slice ag (gOf p).cells.length cg]
  f6 : L 6 = true → IntsAt W v75 bls
  f7 : L 7 = true → v76 = .int .i64 (bls.length : Int)
  f8 : L 8 = true → v77 = .pointer (some ⟨gb, 0, none⟩)
  f9 : L 9 = true → v78 = .int .i64 (gOf p).rows
  f10 : L 10 = true → v79 = .bool true
  f11 : L 11 = true → v80 = .bool true
  f12 : L 12 = true → v2 = .bool true
  b : Below W3.heap.size W3 W

set_option maxRecDepth 100000 in
set_option maxHeartbeats 2000000 in
theorem lawGP_walk (A : Option Addr) (len cap : Nat) (hlen : len ≤ 1048576) (w : World) (h : IsCode w A len cap) :
    Calls Try.prog 7 #[.slice A len cap] w fun e w' => e = .returned (.bool true) ∧ Below w.heap.size w w' := by
  have hl : ¬ (1048576 : Int) < (len : Int) := by omega
  have hmx : Try.prog.follows .mixedOrders = true := by kernel_rfl
  have HD := Hid.intro h
  clear h
  go_enter Try.func7, Try.ntmps7
  go_wp2_with fail
  refine (drawGrdOf_any _ _ _ _ HD.out).mono ?_
  rintro e w1 ⟨ac, ar, cc, cr, t, rfl, hD, hC1, hW1, hb1⟩
  have HS : Hid (St w w1.heap.size ac ar cc cr t (w1.alloc (.cells #[.slice ac t.cols.length cc, .int .i64 t.head, .int .i64 t.foot, .slice ar t.rows.length cr, .int .i64 t.gap] 37))) := ⟨hb1.alloc hb1.size _, TA.kept ⟨hC1, hW1⟩ (k_alloc (Below.refl _ _) _), newestB _ _⟩
  have HOs := Hid.intro (fun W (h : TA W w.heap.size ac ar cc cr t) => specTblOk ac ar cc cr t W h.1 h.2)
  have HOi := Hid.intro (fun W (h : TA W w.heap.size ac ar cc cr t) => implTblOk ac ar cc cr t W h.1 h.2)
  have KP : Hid (∀ W, RowsAt W w.heap.size (.slice ar t.rows.length cr) t.rows → Calls Try.prog 28 #[.agg #[.slice ac t.cols.length cc, .int .i64 t.head, .int .i64 t.foot, .slice ar t.rows.length cr, .int .i64 t.gap]] W fun e w' => ∃ a1 a2 c2, e = .returned (.agg #[.slice a1 (plT t).cols.length 0, .int .i64 (plT t).head, .int .i64 (plT t).foot, .slice a2 (plT t).rows.length c2, .int .i64 (plT t).gap]) ∧ OwnT w' W.heap.size (.slice a1 (plT t).cols.length 0) (.slice a2 (plT t).rows.length c2) (plT t) ∧ Below W.heap.size W w') := Hid.intro (fun W h => by
    have hl : (plT t).rows.length = t.rows.length := by show (t.rows.map plR).length = _; rw [List.length_map]
    rw [hl]
    exact pwPlain_any ac ar cc cr t hD W h)
  have HDp := Hid.intro (plT_drawn hD)
  have HF := Hid.intro (fun hok => gp_facts hD hok)
  clear hC1 hW1 hb1 HD
  generalize plT t = p at KP HDp HF
  go_upto_region 4 with fail
  generalize w1.alloc (.cells #[.slice ac t.cols.length cc, .int .i64 t.head, .int .i64 t.foot, .slice ar t.rows.length cr, .int .i64 t.gap] 37) = W1 at HS ⊢
  generalize w1.heap.size = tb at HS ⊢
  obtain ⟨z0, z1, z2, z3, z4⟩ := HS.out.at
  cases hok : tblB t with
  | false =>
    rw [hok] at HOs HOi
    clear HF HDp KP hok hD
    go_wp2_with fail
    refine (HOs.out _ HS.out.2.1).mono ?_
    rintro e w2 ⟨rfl, hb2⟩
    replace HS := Hid.intro (HS.out.kept hb2)
    clear hb2 z0 z1 z2 z3 z4
    obtain ⟨z0, z1, z2, z3, z4⟩ := HS.out.at
    go_wp2_with fail
    refine (HOi.out _ HS.out.2.1).mono ?_
    rintro e w3 ⟨rfl, hb3⟩
    replace HS := Hid.intro (HS.out.kept hb3)
    clear hb3 z0 z1 z2 z3 z4
    go_wp2_with fail
    refine (pwOk_any _).mono ?_
    rintro e w9 ⟨rfl, rfl⟩
    go_wp2
    go_ret
    exact ⟨rfl, HS.out.1⟩
  | true =>
    rw [hok] at HOs
    obtain ⟨f1, f2, f3⟩ := HF.out hok
    have HFe := Hid.intro f1
    have HMo := Hid.intro f2
    have HBl := Hid.intro f3
    clear HF HOi f1 f2 f3 hok hD
    go_wp2_with fail
    refine (HOs.out _ HS.out.2.1).mono ?_
    rintro e w2 ⟨rfl, hb2⟩
    replace HS := Hid.intro (HS.out.kept hb2)
    clear hb2 z0 z1 z2 z3 z4 HOs
    obtain ⟨z0, z1, z2, z3, z4⟩ := HS.out.at
    go_wp2_with fail
    refine (KP.out _ HS.out.2.1.2).mono ?_
    rintro e w3 ⟨a1, a2, c2, rfl, hO3, hb3⟩
    have hw2 : w.heap.size ≤ w2.heap.size := HS.out.1.size
    obtain ⟨hC3, hR3⟩ := ownT_at HDp.out hO3
    have HX : Hid (St w w3.heap.size a1 a2 0 c2 p (w3.alloc (.cells #[.slice a1 p.cols.length 0, .int .i64 p.head, .int .i64 p.foot, .slice a2 p.rows.length c2, .int .i64 p.gap] 37))) := ⟨(k_trans HS.out.1 hb3).alloc (by have := hb3.size; omega) _, TA.kept ⟨hC3.base hw2, hR3.base hw2⟩ (k_alloc (Below.refl _ _) _), newestB _ _⟩
    clear hO3 hb3 hC3 hR3 HS z0 z1 z2 z3 z4 KP hw2
    go_upto_region 7 with fail
    generalize w3.alloc (.cells #[.slice a1 p.cols.length 0, .int .i64 p.head, .int .i64 p.foot, .slice a2 p.rows.length c2, .int .i64 p.gap] 37) = W2 at HX ⊢
    generalize w3.heap.size = xb at HX ⊢
    obtain ⟨z0, z1, z2, z3, z4⟩ := HX.out.at
    go_wp2_with fail
    refine (implGrdOf a1 a2 0 c2 p HDp.out _ HX.out.2.1.1 HX.out.2.1.2).mono ?_
    rintro e w4 ⟨vg, rfl, hO4, hb4⟩
    obtain ⟨ag, cg, rfl⟩ := own_slice hO4
    have HGk := Hid.intro (gOf_gok HDp.out)
    have hG4 := hO4.at HGk.out
    have hS4 := HX.out.kept hb4
    have HG : Hid (SGr w xb w4.heap.size a1 a2 0 c2 p ag cg (w4.alloc (.cells #[.int .i64 (gOf p).rows, .int .i64 (gOf p).cols, .slice ag (gOf p).cells.length cg] 42))) :=
      ⟨hS4.kept (k_alloc (Below.refl _ _) _), (hG4.base (by have := HX.out.1.size; omega)).kept (k_alloc (Below.refl _ _) _), newestB _ _⟩
    clear hO4 hb4 hG4 hS4 HX z0 z1 z2 z3 z4
    go_upto_region 8 with fail
    generalize w4.alloc (.cells #[.int .i64 (gOf p).rows, .int .i64 (gOf p).cols, .slice ag (gOf p).cells.length cg] 42) = W3 at HG ⊢
    generalize w4.heap.size = gb at HG ⊢
    have hlg := (Array.getElem?_eq_some_iff.1 HG.out.2.2).1
    have hlx := (Array.getElem?_eq_some_iff.1 HG.out.1.2.2).1
    have KS := Hid.intro (fun W (h : Below W3.heap.size W3 W) => specGrdOf a1 a2 0 c2 p HDp.out W (HG.out.kept h).1.2.1.1 (HG.out.kept h).1.2.1.2)
    refine wp_region_inv2 (fun L act W => ∃ v26 v27 v28 v29 v30 : Value, act = ⟨#[.slice A len cap, undef, .bool false, .pointer (some ⟨tb, 0, none⟩), .pointer (some ⟨xb, 0, none⟩), .pointer (some ⟨gb, 0, none⟩), undef, undef, .slice A len cap, .int .i64 len, .bool false, .slice A len cap, .agg #[.slice ac t.cols.length cc, .int .i64 t.head, .int .i64 t.foot, .slice ar t.rows.length cr, .int .i64 t.gap], .agg #[.slice ac t.cols.length cc, .int .i64 t.head, .int .i64 t.foot, .slice ar t.rows.length cr, .int .i64 t.gap], .bool true, .bool false, undef, undef, undef, undef, undef, undef, .agg #[.slice ac t.cols.length cc, .int .i64 t.head, .int .i64 t.foot, .slice ar t.rows.length cr, .int .i64 t.gap], .agg #[.slice a1 p.cols.length 0, .int .i64 p.head, .int .i64 p.foot, .slice a2 p.rows.length c2, .int .i64 p.gap], .agg #[.slice a1 p.cols.length 0, .int .i64 p.head, .int .i64 p.foot, .slice a2 p.rows.length c2, .int .i64 p.gap], .agg #[.int .i64 (gOf p).rows, .int .i64 (gOf p).cols, .slice ag (gOf p).cells.length cg], v26, v27, v28, v29, v30, undef, undef, undef, undef, undef, undef, undef, undef, undef, undef, undef, undef, undef, undef, undef, undef, undef, undef, undef, undef, undef, undef, undef, undef, undef, undef, undef, undef, undef, undef, undef, undef, undef, undef, undef, undef, undef, undef, undef, undef, undef, undef, undef, undef, undef, undef, undef, undef, undef, undef], []⟩ ∧ GpJ w xb gb a1 a2 ag c2 cg p W3 L W v26 v27 v28 v29 v30) hmx (by kernel_rfl) ?hs ?hd ?h0
    case h0 => exact ⟨_, _, _, _, _, rfl, ⟨(fun h => by cases h), (fun h => by cases h), (fun h => by cases h), (fun h => by cases h), (fun h => by cases h), k_drew (Below.refl _ _)⟩⟩
    case hd =>
      intro L act W hJ hall
      obtain ⟨v26, v27, v28, v29, v30, ha, J⟩ := hJ
      subst ha
      obtain rfl := J.f4 (hall 4 (by decide))
      replace HG := Hid.intro (HG.out.kept J.b)
      clear J hall KS hlg hlx
      obtain ⟨W4, hW4⟩ : ∃ W4, W4 = W := ⟨_, rfl⟩
      subst hW4
      obtain ⟨z0, z1, z2⟩ := HG.out.at
      have h40 := grid_few40 HDp.out
      go_upto_region 12 with fail
      clear z0 z1 z2
      go_loopw [6, 7] (fun m i W => ∃ k : Nat, i = .int .i64 (k : Int) ∧ k ≤ (gOf p).cells.length ∧ m = .int .i64 (mostTo (gOf p).cells k) ∧ Hid (Below W4.heap.size W4 W)) (fun _ i _ => (gOf p).cells.length - (intOf i).toNat)
      case atStart => exact ⟨0, rfl, Nat.zero_le _, rfl, Below.refl _ _⟩
      case round =>
        obtain ⟨k, rfl, hk, rfl, HB⟩ := hrel
        replace HG := Hid.intro (HG.out.kept HB.out)
        have hlg := (Array.getElem?_eq_some_iff.1 HG.out.2.2).1
        obtain ⟨z0, z1, z2⟩ := HG.out.at
        by_cases hlt : k < (gOf p).cells.length
        · obtain ⟨b1, off1, cap1, e1, hc1, hc2, hbl, ⟨x0, x1, x2, x3, x4⟩, _⟩ := At.get HG.out.2.1 hlt
          simp only [Value.slice.injEq, true_and] at e1
          obtain ⟨rfl, rfl⟩ := e1
          unfold maxLen at hc2
          have hea := HFe.out k hlt
          have HM := Hid.intro (mostTo_succ hlt)
          generalize (gOf p).cells.getD k dG = y at x0 x1 x2 x3 x4 hea HM
          obtain ⟨yr, yc, yrr, ycc, yi⟩ := y
          simp only at x0 x1 x2 x3 x4 hea HM
          obtain ⟨rfl, rfl, hy0, hy4⟩ := hea
          have hne := bw_some wr
          have n0 := bw_cell (a := ⟨gb, 2, none⟩) hlg z2
          have n1 := bw_cell hbl x1
          have n2 := bw_cell hbl x2
          have n4 := bw_cell hbl x4
          have hwy : IntKind.i64.wrap (yc + 1) = yc + 1 := by rw [IntKind.wrap_i64]; omega
          have HW0 := Hid.intro HB.out
          have X4 := Hid.intro x4
          clear x0 x1 x2 x3 x4 
          go_upto_region 14 with fail
          refine wp_region_quiet_below hmx (by kernel_rfl) ?_
          repeat (go_big_quiet_step (fail))
          refine wpQuiet_nil ?_
          intro W5 hw'
          obtain ⟨⟨Wx, hW5⟩, hw''⟩ := hw'
          subst hw''
          have HB5 := Hid.intro (k_trans HB.out hW5)
          obtain ⟨y0, y1, y2⟩ := (HG.out.kept hW5).at
          have x4' := (hW5.cell (p := ⟨b1, off1 + k * 5 + 4, none⟩) hbl).trans X4.out
          clear n0 n1 n2 n4 hne hW5 z0 z1 z2
          generalize mostTo (gOf p).cells k = m at HM ⊢
          rcases Int.lt_trichotomy m (yc + 1) with h | h | h
          · have hv : Hid (max m (yc + 1) = yc + 1) := Hid.intro (by omega)
            go_wp2
            all_goals
              go_roundw
              case rel => exact ⟨k + 1, by go_num, by omega, by rw [HM.out, hv.out], HB5⟩
              case measure => simp [intOf]; omega
          · have hv : Hid (max m (yc + 1) = yc + 1) := Hid.intro (by omega)
            have HV2 : Hid (max m (yc + 1) = m) := Hid.intro (by omega)
            go_wp2
            all_goals
              go_roundw
              case rel => exact ⟨k + 1, by go_num, by omega, by first | rw [HM.out, hv.out] | rw [HM.out, HV2.out] | rw [HM.out], HB5⟩
              case measure => simp [intOf]; omega
          · have hv : Hid (max m (yc + 1) = m) := Hid.intro (by omega)
            go_wp2
            all_goals
              go_roundw
              case rel => exact ⟨k + 1, by go_num, by omega, by rw [HM.out, hv.out], HB5⟩
              case measure => simp [intOf]; omega
        · obtain rfl : k = (gOf p).cells.length := by omega
          have hlx := (Array.getElem?_eq_some_iff.1 HG.out.1.2.2).1
          have KB := Hid.intro (fun W (h : Below wr.heap.size wr W) => implGrdBlocks (gOf p).rows (gOf p).cols ag cg (gOf p).cells W (HG.out.kept h).2.1)
          have HBe := Hid.intro HBl.out
          generalize hbls : blocksL ⟨(gOf p).rows, (gOf p).cols, (gOf p).cells⟩ = bls at KB HBe
          clear hbls
          rw [HMo.out]
          go_upto_region 17 with fail
          clear z0 z1 z2
          refine wp_region_inv2 (fun L act W => ∃ v69 v70 v71 v72 v73 v74 v75 v76 v77 v78 v79 v80 v2 : Value, act = ⟨#[.slice A len cap, undef, v2, .pointer (some ⟨tb, 0, none⟩), .pointer (some ⟨xb, 0, none⟩), .pointer (some ⟨gb, 0, none⟩), .int .i64 (gOf p).cols, .int .i64 ((gOf p).cells.length : Int), .slice A len cap, .int .i64 len, .bool false, .slice A len cap, .agg #[.slice ac t.cols.length cc, .int .i64 t.head, .int .i64 t.foot, .slice ar t.rows.length cr, .int .i64 t.gap], .agg #[.slice ac t.cols.length cc, .int .i64 t.head, .int .i64 t.foot, .slice ar t.rows.length cr, .int .i64 t.gap], .bool true, .bool false, undef, undef, undef, undef, undef, undef, .agg #[.slice ac t.cols.length cc, .int .i64 t.head, .int .i64 t.foot, .slice ar t.rows.length cr, .int .i64 t.gap], .agg #[.slice a1 p.cols.length 0, .int .i64 p.head, .int .i64 p.foot, .slice a2 p.rows.length c2, .int .i64 p.gap], .agg #[.slice a1 p.cols.length 0, .int .i64 p.head, .int .i64 p.foot, .slice a2 p.rows.length c2, .int .i64 p.gap], .agg #[.int .i64 (gOf p).rows, .int .i64 (gOf p).cols, .slice ag (gOf p).cells.length cg], v26, v27, v28, v29, .bool false, .int .i64 ((gOf p).cells.length : Int), .pointer (some ⟨gb, 2, none⟩), .slice ag (gOf p).cells.length cg, .int .i64 ((gOf p).cells.length : Int), .bool false, u36, u37, u38, u39, u40, u41, u42, u43, u44, u45, u46, u47, u48, u49, u50, u51, u52, u53, u54, u55, u56, u57, u58, u59, u60, u61, u62, u63, u64, u65, u66, u67, u68, v69, v70, v71, v72, v73, v74, v75, v76, v77, v78, v79, v80], []⟩ ∧ GpK w xb gb a1 a2 ag c2 cg p bls wr L W v69 v70 v71 v72 v73 v74 v75 v76 v77 v78 v79 v80 v2) hmx (by kernel_rfl) ?hs2 ?hd2 ?h02
          case h02 => exact ⟨_, _, _, _, _, _, _, _, _, _, _, _, _, rfl, ⟨(fun h => by cases h), (fun h => by cases h), (fun h => by cases h), (fun h => by cases h), (fun h => by cases h), (fun h => by cases h), (fun h => by cases h), (fun h => by cases h), (fun h => by cases h), (fun h => by cases h), (fun h => by cases h), (fun h => by cases h), (fun h => by cases h), k_drew (Below.refl _ _)⟩⟩
          case hd2 =>
            intro L act W hJ hall
            obtain ⟨v69, v70, v71, v72, v73, v74, v75, v76, v77, v78, v79, v80, v2, ha, J⟩ := hJ
            subst ha
            obtain rfl := J.f12 (hall 12 (by decide))
            have HBq := Hid.intro ((HG.out.kept J.b).1.1)
            clear J hall
            go_wp2
            go_ret
            exact ⟨rfl, HBq.out⟩
          case hs2 =>
            intro L act W i o hJ hcl ho hLi haft K hK
            obtain ⟨v69, v70, v71, v72, v73, v74, v75, v76, v77, v78, v79, v80, v2, ha, J⟩ := hJ
            subst ha
            have hi' : i < 13 := by
              have := (Array.getElem?_eq_some_iff.1 ho).1
              simpa using this
            rcases (by omega : i = 0 ∨ i = 1 ∨ i = 2 ∨ i = 3 ∨ i = 4 ∨ i = 5 ∨ i = 6 ∨ i = 7 ∨ i = 8 ∨ i = 9 ∨ i = 10 ∨ i = 11 ∨ i = 12) with rfl | rfl | rfl | rfl | rfl | rfl | rfl | rfl | rfl | rfl | rfl | rfl | rfl
            all_goals
              simp only [List.getElem?_toArray, List.getElem?_cons_zero, List.getElem?_cons_succ, Option.some.injEq] at ho
              subst ho
              clear hi'
            · skip
              go_simp
              exact hK _ _ ⟨_, _, _, _, _, _, _, _, _, _, _, _, _, rfl, ⟨(fun _ => rfl), (fun h => J.f1 (un h)), (fun h => J.f2 (un h)), (fun h => J.f3 (un h)), (fun h => J.f4 (un h)), (fun h => J.f5 (un h)), (fun h => J.f6 (un h)), (fun h => J.f7 (un h)), (fun h => J.f8 (un h)), (fun h => J.f9 (un h)), (fun h => J.f10 (un h)), (fun h => J.f11 (un h)), (fun h => J.f12 (un h)), J.b⟩⟩
            · skip
              obtain rfl := J.f0 (haft ⟨0, .data⟩ (by simp) rfl)
              obtain ⟨q0, q1, q2⟩ := (HG.out.kept J.b).at
              have hl := Nat.lt_of_lt_of_le hlg J.b.size
              go_simp
              exact hK _ _ ⟨_, _, _, _, _, _, _, _, _, _, _, _, _, rfl, ⟨(fun h => J.f0 (un h)), (fun _ => rfl), (fun h => J.f2 (un h)), (fun h => J.f3 (un h)), (fun h => J.f4 (un h)), (fun h => J.f5 (un h)), (fun h => J.f6 (un h)), (fun h => J.f7 (un h)), (fun h => J.f8 (un h)), (fun h => J.f9 (un h)), (fun h => J.f10 (un h)), (fun h => J.f11 (un h)), (fun h => J.f12 (un h)), J.b⟩⟩
            · skip
              go_simp
              exact hK _ _ ⟨_, _, _, _, _, _, _, _, _, _, _, _, _, rfl, ⟨(fun h => J.f0 (un h)), (fun h => J.f1 (un h)), (fun _ => rfl), (fun h => J.f3 (un h)), (fun h => J.f4 (un h)), (fun h => J.f5 (un h)), (fun h => J.f6 (un h)), (fun h => J.f7 (un h)), (fun h => J.f8 (un h)), (fun h => J.f9 (un h)), (fun h => J.f10 (un h)), (fun h => J.f11 (un h)), (fun h => J.f12 (un h)), J.b⟩⟩
            · skip
              obtain rfl := J.f1 (haft ⟨1, .data⟩ (by simp) rfl)
              obtain rfl := J.f2 (haft ⟨2, .data⟩ (by simp) rfl)
              go_simp
              exact hK _ _ ⟨_, _, _, _, _, _, _, _, _, _, _, _, _, rfl, ⟨(fun h => J.f0 (un h)), (fun h => J.f1 (un h)), (fun h => J.f2 (un h)), (fun _ => by first | rfl | simp), (fun h => J.f4 (un h)), (fun h => J.f5 (un h)), (fun h => J.f6 (un h)), (fun h => J.f7 (un h)), (fun h => J.f8 (un h)), (fun h => J.f9 (un h)), (fun h => J.f10 (un h)), (fun h => J.f11 (un h)), (fun h => J.f12 (un h)), J.b⟩⟩
            · skip
              obtain rfl := J.f3 (haft ⟨3, .data⟩ (by simp) rfl)
              go_simp
              exact hK _ _ ⟨_, _, _, _, _, _, _, _, _, _, _, _, _, rfl, ⟨(fun h => J.f0 (un h)), (fun h => J.f1 (un h)), (fun h => J.f2 (un h)), (fun h => J.f3 (un h)), (fun _ => rfl), (fun h => J.f5 (un h)), (fun h => J.f6 (un h)), (fun h => J.f7 (un h)), (fun h => J.f8 (un h)), (fun h => J.f9 (un h)), (fun h => J.f10 (un h)), (fun h => J.f11 (un h)), (fun h => J.f12 (un h)), J.b⟩⟩
            · skip
              obtain rfl := J.f4 (haft ⟨4, .guard⟩ (by simp) rfl)
              obtain ⟨q0, q1, q2⟩ := (HG.out.kept J.b).at
              have hl := Nat.lt_of_lt_of_le hlg J.b.size
              rw [if_pos (by rfl)]
              go_simp
              exact hK _ _ ⟨_, _, _, _, _, _, _, _, _, _, _, _, _, rfl, ⟨(fun h => J.f0 (un h)), (fun h => J.f1 (un h)), (fun h => J.f2 (un h)), (fun h => J.f3 (un h)), (fun h => J.f4 (un h)), (fun _ => rfl), (fun h => J.f6 (un h)), (fun h => J.f7 (un h)), (fun h => J.f8 (un h)), (fun h => J.f9 (un h)), (fun h => J.f10 (un h)), (fun h => J.f11 (un h)), (fun h => J.f12 (un h)), J.b⟩⟩
            · skip
              obtain rfl := J.f4 (haft ⟨4, .guard⟩ (by simp) rfl)
              obtain rfl := J.f5 (haft ⟨5, .data⟩ (by simp) rfl)
              rw [if_pos (by rfl)]
              go_simp
              go_wp2_with (go_at_call 29; refine (KB.out W J.b).mono ?_; rintro e W2 ⟨v, rfl, hR, hb⟩; have hI := hR.at; clear hR)
              exact ⟨_, _, _, _, _, _, _, _, _, _, _, _, _, rfl, ⟨(fun h => J.f0 (un h)), (fun h => J.f1 (un h)), (fun h => J.f2 (un h)), (fun h => J.f3 (un h)), (fun h => J.f4 (un h)), (fun h => J.f5 (un h)), (fun _ => hI), (fun h => J.f7 (un h)), (fun h => J.f8 (un h)), (fun h => J.f9 (un h)), (fun h => J.f10 (un h)), (fun h => J.f11 (un h)), (fun h => J.f12 (un h)), k_trans J.b hb⟩⟩
            · skip
              obtain rfl := J.f4 (haft ⟨4, .guard⟩ (by simp) rfl)
              have hI := J.f6 (haft ⟨6, .data⟩ (by simp) rfl)
              obtain ⟨aq, cq, rfl, _⟩ := hI.form
              rw [if_pos (by rfl)]
              go_simp
              exact hK _ _ ⟨_, _, _, _, _, _, _, _, _, _, _, _, _, rfl, ⟨(fun h => J.f0 (un h)), (fun h => J.f1 (un h)), (fun h => J.f2 (un h)), (fun h => J.f3 (un h)), (fun h => J.f4 (un h)), (fun h => J.f5 (un h)), (fun h => J.f6 (un h)), (fun _ => rfl), (fun h => J.f8 (un h)), (fun h => J.f9 (un h)), (fun h => J.f10 (un h)), (fun h => J.f11 (un h)), (fun h => J.f12 (un h)), J.b⟩⟩
            · skip
              obtain rfl := J.f4 (haft ⟨4, .guard⟩ (by simp) rfl)
              rw [if_pos (by rfl)]
              go_simp
              exact hK _ _ ⟨_, _, _, _, _, _, _, _, _, _, _, _, _, rfl, ⟨(fun h => J.f0 (un h)), (fun h => J.f1 (un h)), (fun h => J.f2 (un h)), (fun h => J.f3 (un h)), (fun h => J.f4 (un h)), (fun h => J.f5 (un h)), (fun h => J.f6 (un h)), (fun h => J.f7 (un h)), (fun _ => rfl), (fun h => J.f9 (un h)), (fun h => J.f10 (un h)), (fun h => J.f11 (un h)), (fun h => J.f12 (un h)), J.b⟩⟩
            · skip
              obtain rfl := J.f4 (haft ⟨4, .guard⟩ (by simp) rfl)
              obtain rfl := J.f8 (haft ⟨8, .data⟩ (by simp) rfl)
              obtain ⟨q0, q1, q2⟩ := (HG.out.kept J.b).at
              have hl := Nat.lt_of_lt_of_le hlg J.b.size
              rw [if_pos (by rfl)]
              go_simp
              exact hK _ _ ⟨_, _, _, _, _, _, _, _, _, _, _, _, _, rfl, ⟨(fun h => J.f0 (un h)), (fun h => J.f1 (un h)), (fun h => J.f2 (un h)), (fun h => J.f3 (un h)), (fun h => J.f4 (un h)), (fun h => J.f5 (un h)), (fun h => J.f6 (un h)), (fun h => J.f7 (un h)), (fun h => J.f8 (un h)), (fun _ => rfl), (fun h => J.f10 (un h)), (fun h => J.f11 (un h)), (fun h => J.f12 (un h)), J.b⟩⟩
            · skip
              obtain rfl := J.f4 (haft ⟨4, .guard⟩ (by simp) rfl)
              obtain rfl := J.f7 (haft ⟨7, .data⟩ (by simp) rfl)
              obtain rfl := J.f9 (haft ⟨9, .data⟩ (by simp) rfl)
              rw [if_pos (by rfl)]
              go_simp
              exact hK _ _ ⟨_, _, _, _, _, _, _, _, _, _, _, _, _, rfl, ⟨(fun h => J.f0 (un h)), (fun h => J.f1 (un h)), (fun h => J.f2 (un h)), (fun h => J.f3 (un h)), (fun h => J.f4 (un h)), (fun h => J.f5 (un h)), (fun h => J.f6 (un h)), (fun h => J.f7 (un h)), (fun h => J.f8 (un h)), (fun h => J.f9 (un h)), (fun _ => by first | rfl | (rw [HBe.out]) | (simp [HBe.out])), (fun h => J.f11 (un h)), (fun h => J.f12 (un h)), J.b⟩⟩
            · skip
              obtain rfl := J.f4 (haft ⟨4, .data⟩ (by simp) rfl)
              obtain rfl := J.f10 (haft ⟨10, .data⟩ (by simp) rfl)
              go_simp
              exact hK _ _ ⟨_, _, _, _, _, _, _, _, _, _, _, _, _, rfl, ⟨(fun h => J.f0 (un h)), (fun h => J.f1 (un h)), (fun h => J.f2 (un h)), (fun h => J.f3 (un h)), (fun h => J.f4 (un h)), (fun h => J.f5 (un h)), (fun h => J.f6 (un h)), (fun h => J.f7 (un h)), (fun h => J.f8 (un h)), (fun h => J.f9 (un h)), (fun h => J.f10 (un h)), (fun _ => rfl), (fun h => J.f12 (un h)), J.b⟩⟩
            · skip
              obtain rfl := J.f11 (haft ⟨11, .data⟩ (by simp) rfl)
              go_simp
              exact hK _ _ ⟨_, _, _, _, _, _, _, _, _, _, _, _, _, rfl, ⟨(fun h => J.f0 (un h)), (fun h => J.f1 (un h)), (fun h => J.f2 (un h)), (fun h => J.f3 (un h)), (fun h => J.f4 (un h)), (fun h => J.f5 (un h)), (fun h => J.f6 (un h)), (fun h => J.f7 (un h)), (fun h => J.f8 (un h)), (fun h => J.f9 (un h)), (fun h => J.f10 (un h)), (fun h => J.f11 (un h)), (fun _ => rfl), J.b⟩⟩
    case hs =>
      intro L act W i o hJ hcl ho hLi haft K hK
      obtain ⟨v26, v27, v28, v29, v30, ha, J⟩ := hJ
      subst ha
      have hi' : i < 5 := by
        have := (Array.getElem?_eq_some_iff.1 ho).1
        simpa using this
      rcases (by omega : i = 0 ∨ i = 1 ∨ i = 2 ∨ i = 3 ∨ i = 4) with rfl | rfl | rfl | rfl | rfl
      all_goals
        simp only [List.getElem?_toArray, List.getElem?_cons_zero, List.getElem?_cons_succ, Option.some.injEq] at ho
        subst ho
        clear hi'
      · skip
        obtain ⟨q0, q1, q2⟩ := (HG.out.kept J.b).at
        have hl := Nat.lt_of_lt_of_le hlg J.b.size
        go_simp
        exact hK _ _ ⟨_, _, _, _, _, rfl, ⟨(fun _ => rfl), (fun h => J.f1 (un h)), (fun h => J.f2 (un h)), (fun h => J.f3 (un h)), (fun h => J.f4 (un h)), J.b⟩⟩
      · skip
        obtain ⟨q0, q1, q2, q3, q4⟩ := (HG.out.kept J.b).1.at
        have hl := Nat.lt_of_lt_of_le hlx J.b.size
        go_simp
        exact hK _ _ ⟨_, _, _, _, _, rfl, ⟨(fun h => J.f0 (un h)), (fun _ => rfl), (fun h => J.f2 (un h)), (fun h => J.f3 (un h)), (fun h => J.f4 (un h)), J.b⟩⟩
      · skip
        obtain rfl := J.f1 (haft ⟨1, .data⟩ (by simp) rfl)
        go_simp
        go_wp2_with (go_at_call 20; refine (KS.out W J.b).mono ?_; rintro e W2 ⟨vg, rfl, hO, hb⟩; have hG2 := hO.at HGk.out; clear hO)
        exact ⟨_, _, _, _, _, rfl, ⟨(fun h => J.f0 (un h)), (fun h => J.f1 (un h)), (fun _ => ⟨_, _, rfl, hG2⟩), (fun h => J.f3 (un h)), (fun h => J.f4 (un h)), k_trans J.b hb⟩⟩
      · skip
        obtain rfl := J.f0 (haft ⟨0, .data⟩ (by simp) rfl)
        obtain ⟨vg, z9, rfl, hI⟩ := J.f2 (haft ⟨2, .data⟩ (by simp) rfl)
        go_simp
        go_wp2_with (go_at_call 19; refine (pwGrid_any _ _ _ vg (gOf p).cells W (HG.out.kept J.b).2.1 hI).mono ?_; rintro e W2 ⟨rfl, hb⟩)
        exact ⟨_, _, _, _, _, rfl, ⟨(fun h => J.f0 (un h)), (fun h => J.f1 (un h)), (fun h => (J.f2 (un h)).elim fun vg ⟨z, e, h⟩ => ⟨vg, z, e, h.kept hb⟩), (fun _ => rfl), (fun h => J.f4 (un h)), k_trans J.b hb⟩⟩
      · skip
        obtain rfl := J.f3 (haft ⟨3, .data⟩ (by simp) rfl)
        go_simp
        exact hK _ _ ⟨_, _, _, _, _, rfl, ⟨(fun h => J.f0 (un h)), (fun h => J.f1 (un h)), (fun h => J.f2 (un h)), (fun h => J.f3 (un h)), (fun _ => rfl), J.b⟩⟩

set_option maxRecDepth 100000 in
theorem lawGrdPlain (A : Option Addr) (len cap : Nat) (w : World) (h : IsCode w A len cap) :
    Calls Try.prog 7 #[.slice A len cap] w fun e w' => e = .returned (.bool true) ∧ Below w.heap.size w w' := by
  have hlen : len ≤ maxLen := Nat.le_trans h.1 h.2.1
  unfold maxLen at hlen
  by_cases hbig : len ≤ 1048576
  · exact lawGP_walk A len cap hbig w h
  · clear h
    have hb : (1048576 : Int) < (len : Int) := by omega
    go_enter Try.func7, Try.ntmps7
    go_wp2
    go_ret
    exact ⟨rfl, Below.refl _ _⟩
end Go.Proofs.Ytggmjiddadjilal
