/-
  PROVED HERE: what the laws' own heldTblColS, heldTblCellS, heldTblRowS and heldTblTable answer of a table that was marked: the number behind the last mark; nothing that was in memory is turned. Also: what the laws' own heldTblColS, heldTblRowS and heldTblTable answer of a table that was marked: the number behind the last mark; nothing that was in memory is turned. Also: what slices.Clone answers of columns, rows and cells: the same ones, in memory of the call's own; nothing that was in memory is turned. Also: what the program's BrdOk answers at every border.
-/
import Derived.Test.YtggmjiddadjilaoB8
import Derived.WalkLawsBesides
import Derived.WalkSpells
import Derived.Deep.RegionWith
import Derived.Deep.QuietTactic
import Derived.BigQuiet
import Derived.Deep.Cut
import Derived.Laws.AppendOwn
import Derived.Lib.SliceRun
import Derived.Lib.Walk
import Derived.WalkKit
import Derived.Deep.LoopGhost
namespace Go.Proofs.Ytggmjiddadjilao
open Go.RowKit

theorem own_cells {w : World} {B n k0 : Nat} {u : Value} (h : OwnC w B u (mkCs n k0)) : ∃ a cap, u = .slice a n cap ∧ n ≤ maxLen ∧ ∀ i, i < n → ∃ g, a = some ⟨g, 0, none⟩ ∧ n ≤ cap ∧ cap ≤ maxLen ∧ g < w.heap.size ∧ CellIs w g (i * 11) (mkC (k0 + 11 * i)) := by
  have hl := mkCs_len n k0
  rcases h.2 with ⟨rfl, e⟩ | ⟨g, cap, cur, rfl, hg, hc, a1, a2, a3, a4⟩
  · rw [hl] at e
    subst e
    exact ⟨none, 0, rfl, Nat.zero_le _, fun i hi => absurd hi (Nat.not_lt_zero _)⟩
  · rw [hl] at a1 a4
    refine ⟨some ⟨g, 0, none⟩, cap, by rw [hl], Nat.le_trans a1 a2, fun i hi => ⟨g, rfl, a1, a2, (Array.getElem?_eq_some_iff.1 hc).1, ?_⟩⟩
    have hx : ∀ j, j < 11 → w.cell? ⟨g, i * 11 + j, none⟩ = (cellVs (mkC (k0 + 11 * i)))[j]? := fun j hj => by
      have hil : i < (mkCs n k0).length := by rw [hl]; exact hi
      have e := flat_get cellVs 11 (fun _ => rfl) (mkCs n k0) i hil j hj
      rw [← a4, List.getElem?_take_of_lt (by omega), Array.getElem?_toList, ← getD_get dC hil, mkCs_get hi] at e
      rw [cellB hc, e]
    exact ⟨hx 0 (by omega), hx 1 (by omega), hx 2 (by omega), hx 3 (by omega), hx 4 (by omega), hx 5 (by omega), hx 6 (by omega), hx 7 (by omega), hx 8 (by omega), hx 9 (by omega), hx 10 (by omega)⟩
theorem CellIs.below {w w' : World} {g o : Nat} {x : C} (h : CellIs w g o x) (hg : g < w.heap.size) (k : Below w.heap.size w w') : CellIs w' g o x := by
  unfold CellIs at h ⊢
  have e : ∀ p, w'.cell? ⟨g, p, none⟩ = w.cell? ⟨g, p, none⟩ := fun p => k.cell (p := ⟨g, p, none⟩) hg
  simp only [e]
  exact h

set_option maxRecDepth 100000 in
set_option maxHeartbeats 2000000 in
theorem heldTblCellS_any (u : Value) (n k0 : Nat) (h0 : 0 < k0) (hb : k0 + 11 * n ≤ 99999990) (B : Nat) (w : World) (h : OwnC w B u (mkCs n k0)) :
    Calls Try.prog 93 #[u, .int .i64 k0] w fun e w' => e = .returned (.int .i64 ((k0 + 11 * n : Nat) : Int)) ∧ Below w.heap.size w w' := by
  obtain ⟨a, cap, rfl, hlen, hX⟩ := own_cells h
  have X := Hid.intro hX
  have hmx : Try.prog.follows .mixedOrders = true := by kernel_rfl
  clear h hX
  unfold maxLen at hlen
  go_enter Try.func93, Try.ntmps93
  go_wp2_with fail
  go_loopw [1, 5] (fun q i W => ∃ (k b : Nat), k ≤ n ∧ i = .int .i64 k ∧ q = .int .i64 b ∧ Hid (b = k0 + 11 * k) ∧ Hid (Below w.heap.size w W)) (fun _ i _ => n - (intOf i).toNat)
  case atStart => exact ⟨0, k0, Nat.zero_le _, rfl, rfl, rfl, Below.refl _ _⟩
  case round =>
    obtain ⟨k, b, hk, rfl, rfl, HE, HB⟩ := hrel
    by_cases hlt : k < n
    · obtain ⟨g, rfl, h1, h2, hgl, hI⟩ := X.out k hlt
      have hbb : 0 < b ∧ b ≤ 99999979 := by rw [HE.out]; omega
      rw [← HE.out] at hI
      have hgw : g < wr.heap.size := Nat.lt_of_lt_of_le hgl HB.out.size
      have HI := Hid.intro (hI.below hgl HB.out)
      have HM := Hid.intro (markText_big b hbb.1 (by omega))
      have HE2 : Hid (b + 11 = k0 + 11 * (k + 1)) := by show _ = _; rw [HE.out]; omega
      have q0 := HI.out.1
      unfold maxLen at h2
      have m0 := bw_cell (a := ⟨g, k * 11, none⟩) hgw q0
      have hne := bw_some wr
      have KM := Hid.intro (fun (p : BW wr) => bw_of (HM.out p.u))
      have hss : (mkC b).s = mt b := rfl
      rw [hss] at m0 q0
      clear HE hI HM hss q0
      generalize hmt : mt b = y at m0 KM
      clear hmt
      go_upto_region 4 with fail
      refine wp_region_quiet_below hmx (by kernel_rfl) ?_
      repeat (go_big_quiet_step (first | (go_at_call 42; refine KM.out _)))
      refine wpQuiet_nil ?_
      intro W9 hw'
      obtain ⟨⟨Wx, hW9⟩, hw''⟩ := hw'
      subst hw''
      have HB9 := Hid.intro (k_trans HB.out hW9)
      obtain ⟨_, l1, l2, l3, l4, l5, l6, l7, l8, l9, l10⟩ := HI.out.below hgw hW9
      replace l1 : W9.cell? ⟨g, k * 11 + 1, none⟩ = some (.int .i64 ((b : Int) + 1)) := l1
      replace l2 : W9.cell? ⟨g, k * 11 + 2, none⟩ = some (.int .i64 ((b : Int) + 2)) := l2
      replace l3 : W9.cell? ⟨g, k * 11 + 3, none⟩ = some (.int .i64 ((b : Int) + 3)) := l3
      replace l4 : W9.cell? ⟨g, k * 11 + 4, none⟩ = some (.int .i64 ((b : Int) + 4)) := l4
      replace l5 : W9.cell? ⟨g, k * 11 + 5, none⟩ = some (.int .i64 ((b : Int) + 5)) := l5
      replace l6 : W9.cell? ⟨g, k * 11 + 6, none⟩ = some (.int .i64 ((b : Int) + 6)) := l6
      replace l7 : W9.cell? ⟨g, k * 11 + 7, none⟩ = some (.int .i64 ((b : Int) + 7)) := l7
      replace l8 : W9.cell? ⟨g, k * 11 + 8, none⟩ = some (.int .i64 ((b : Int) + 8)) := l8
      replace l9 : W9.cell? ⟨g, k * 11 + 9, none⟩ = some (.int .i64 ((b : Int) + 9)) := l9
      replace l10 : W9.cell? ⟨g, k * 11 + 10, none⟩ = some (.int .i64 ((b : Int) + 10)) := l10
      clear m0 hne hW9 KM HI HB
      have ne1 : (((b : Int) + 1) != ((b : Int) + 1)) = false := by simp
      have ne2 : (((b : Int) + 2) != ((b : Int) + 2)) = false := by simp
      have ne3 : (((b : Int) + 3) != ((b : Int) + 3)) = false := by simp
      have ne4 : (((b : Int) + 4) != ((b : Int) + 4)) = false := by simp
      have ne5 : (((b : Int) + 5) != ((b : Int) + 5)) = false := by simp
      have ne6 : (((b : Int) + 6) != ((b : Int) + 6)) = false := by simp
      have ne7 : (((b : Int) + 7) != ((b : Int) + 7)) = false := by simp
      have ne8 : (((b : Int) + 8) != ((b : Int) + 8)) = false := by simp
      have ne9 : (((b : Int) + 9) != ((b : Int) + 9)) = false := by simp
      have ne10 : (((b : Int) + 10) != ((b : Int) + 10)) = false := by simp
      go_wp2
      go_roundw
      case rel => exact ⟨k + 1, b + 11, by omega, by go_num, by go_num, HE2, HB9⟩
      case measure => simp [intOf]; omega
    · obtain rfl : k = n := by omega
      have HE2 : Hid ((b : Int) = ((k0 + 11 * k : Nat) : Int)) := by show _ = _; rw [HE.out]
      clear HE
      go_wp2
      go_ret
      exact ⟨congrArg (fun x : Int => Ending.returned (Value.int .i64 x)) HE2.out, HB.out⟩
end Go.Proofs.Ytggmjiddadjilao
namespace Go.Proofs.Ytggmjiddadjilao
open Go.RowKit

theorem own_colsH {w : World} {B n k0 : Nat} {u : Value} (h : OwnCol w B u (mkCols n k0)) : ∃ a cap, u = .slice a n cap ∧ n ≤ maxLen ∧ ∀ i, i < n → ∃ g, a = some ⟨g, 0, none⟩ ∧ n ≤ cap ∧ cap ≤ maxLen ∧ g < w.heap.size ∧ w.cell? ⟨g, i * 2, none⟩ = some (.int .i64 ((k0 + 2 * i : Nat) : Int)) ∧ w.cell? ⟨g, i * 2 + 1, none⟩ = some (.int .i64 (((k0 + 2 * i : Nat) : Int) + 1)) := by
  have hl := mkCols_len n k0
  rcases h.2 with ⟨rfl, e⟩ | ⟨g, cap, cur, rfl, hg, hc, a1, a2, a3, a4⟩
  · rw [hl] at e
    subst e
    exact ⟨none, 0, rfl, Nat.zero_le _, fun i hi => absurd hi (Nat.not_lt_zero _)⟩
  · rw [hl] at a1 a4
    refine ⟨some ⟨g, 0, none⟩, cap, by rw [hl], Nat.le_trans a1 a2, fun i hi => ⟨g, rfl, a1, a2, (Array.getElem?_eq_some_iff.1 hc).1, ?_⟩⟩
    have hx : ∀ j, j < 2 → w.cell? ⟨g, i * 2 + j, none⟩ = (colVs (mkCol (k0 + 2 * i)))[j]? := fun j hj => by
      have hil : i < (mkCols n k0).length := by rw [hl]; exact hi
      have e := flat_get colVs 2 (fun _ => rfl) (mkCols n k0) i hil j hj
      rw [← a4, List.getElem?_take_of_lt (by omega), Array.getElem?_toList, ← getD_get (0, 0) hil, mkCols_get hi] at e
      rw [cellB hc, e]
    exact ⟨hx 0 (by omega), hx 1 (by omega)⟩

set_option maxRecDepth 100000 in
set_option maxHeartbeats 2000000 in
theorem heldTblColS_any (u : Value) (n k0 : Nat) (hb : k0 + 2 * n ≤ 99999990) (B : Nat) (w : World) (h : OwnCol w B u (mkCols n k0)) :
    Calls Try.prog 63 #[u, .int .i64 k0] w fun e w' => e = .returned (.int .i64 ((k0 + 2 * n : Nat) : Int)) ∧ w' = w := by
  obtain ⟨a, cap, rfl, hlen, hX⟩ := own_colsH h
  have X := Hid.intro hX
  clear h hX
  unfold maxLen at hlen
  go_enter Try.func63, Try.ntmps63
  go_wp2_with fail
  go_loopw [1, 5] (fun q i W => ∃ (k b : Nat), k ≤ n ∧ i = .int .i64 k ∧ q = .int .i64 b ∧ Hid (b = k0 + 2 * k) ∧ W = w) (fun _ i _ => n - (intOf i).toNat)
  case atStart => exact ⟨0, k0, Nat.zero_le _, rfl, rfl, rfl, rfl⟩
  case round =>
    obtain ⟨k, b, hk, rfl, rfl, HE, rfl⟩ := hrel
    by_cases hlt : k < n
    · obtain ⟨g, rfl, h1, h2, hgl, q0, q1⟩ := X.out k hlt
      have hbb : b ≤ 99999988 := by rw [HE.out]; omega
      rw [← HE.out] at q0 q1
      have HE2 : Hid (b + 2 = k0 + 2 * (k + 1)) := by show _ = _; rw [HE.out]; omega
      unfold maxLen at h2
      have ne0 : ((b : Int) != (b : Int)) = false := by simp
      have ne1 : (((b : Int) + 1) != ((b : Int) + 1)) = false := by simp
      clear HE
      go_wp2
      go_roundw
      case rel => exact ⟨k + 1, b + 2, by omega, by go_num, by go_num, HE2, trivial⟩
      case measure => simp [intOf]; omega
    · obtain rfl : k = n := by omega
      have HE2 : Hid ((b : Int) = ((k0 + 2 * k : Nat) : Int)) := by show _ = _; rw [HE.out]
      clear HE
      go_wp2
      go_ret
      exact ⟨congrArg (fun x : Int => Ending.returned (Value.int .i64 x)) HE2.out, rfl⟩

set_option maxRecDepth 100000 in
set_option maxHeartbeats 2000000 in
theorem heldTblRowS_any (v : Value) (ur : List (Value × R)) (k0 : Nat) (h0 : 0 < k0) (hb : kAt (ur.map (·.2)) k0 ur.length ≤ 99999990) (B : Nat) (w : World) (h : OwnR w B v (mkU ur k0 ur.length)) :
    Calls Try.prog 64 #[v, .int .i64 k0] w fun e w' => e = .returned (.int .i64 ((kAt (ur.map (·.2)) k0 ur.length : Nat) : Int)) ∧ Below w.heap.size w w' := by
  obtain ⟨a, cap, hv, hlen⟩ := row_form h.own
  rw [mkU_len] at hv hlen
  subst hv
  have HO := Hid.intro h
  have HbM := Hid.intro hb
  clear h hb
  unfold maxLen at hlen
  go_enter Try.func64, Try.ntmps64
  go_wp2_with fail
  go_loopw [1, 5] (fun q i W => ∃ (k b : Nat), k ≤ ur.length ∧ i = .int .i64 k ∧ q = .int .i64 b ∧ Hid (b = kAt (ur.map (·.2)) k0 k) ∧ Hid (Below w.heap.size w W)) (fun _ i _ => ur.length - (intOf i).toNat)
  case atStart => exact ⟨0, k0, Nat.zero_le _, rfl, rfl, rfl, Below.refl _ _⟩
  case round =>
    obtain ⟨k, b, hk, rfl, rfl, HE, HB⟩ := hrel
    by_cases hlt : k < ur.length
    · have hgM := mkU_new ur k0 ur.length k hlt hlt
      have hge : ur[k]? = some ur[k] := List.getElem?_eq_getElem hlt
      rw [getD_get dU hlt, ← HE.out] at hgM
      obtain ⟨g, cap', cur, e', hc1, hc2, hgl, hgB, hcur, hsz, hx0, hx1⟩ := own_get HO.out hgM
      rw [mkU_len] at e' hc1
      simp only [Value.slice.injEq, true_and] at e'
      obtain ⟨rfl, rfl⟩ := e'
      have hC := HO.out.cells _ (List.mem_of_getElem? hgM)
      have hkn : kAt (ur.map (·.2)) k0 (k + 1) = b + 11 * ur[k].2.cells.length + 1 := by
        rw [kAt, map_snd_get hge, HE.out]
      have hkm := kAt_mono (ur.map (·.2)) k0 (k + 1) ur.length hlt
      have hk0 := kAt_mono (ur.map (·.2)) k0 0 k (Nat.zero_le _)
      rw [hkn] at hkm
      rw [← HE.out] at hk0
      have hb2 : b + 11 * ur[k].2.cells.length + 1 ≤ 99999990 := Nat.le_trans hkm HbM.out
      have hb0 : 0 < b := Nat.lt_of_lt_of_le h0 hk0
      have HEn : Hid (b + 11 * ur[k].2.cells.length + 1 = kAt (ur.map (·.2)) k0 (k + 1)) := hkn.symm
      have hlc : ur[k].2.cells.length ≤ 9999999 := by omega
      have hgw : g < wr.heap.size := Nat.lt_of_lt_of_le hgl HB.out.size
      have hCw : OwnC wr B ur[k].1 (mkCs ur[k].2.cells.length b) := ⟨hC.1, hC.2.elim Or.inl (fun ⟨g, cap, cur, e, hg, hc, q⟩ => Or.inr ⟨g, cap, cur, e, hg, (HB.out.block g (Array.getElem?_eq_some_iff.1 hc).1).trans hc, q⟩)⟩
      have HM := Hid.intro (heldTblCellS_any ur[k].1 ur[k].2.cells.length b hb0 (by omega) B wr hCw)
      have hcw := (HB.out.block g hgl).trans hcur
      have L0 := (cellB hcw).trans hx0
      have L1 := (cellB hcw).trans hx1
      obtain ⟨pa, pcap, hpf, _⟩ := row_form hCw
      dsimp only [mkR] at L0 L1
      rw [hpf] at L0 HM
      have Hcw := Hid.intro hcw
      clear hge hgM hkn hkm hk0 HE hC hCw hx0 hx1 hcur hpf hcw
      generalize ur[k].2.cells.length = n at HM HEn hb2 hlc L1 L0
      have hnn : (0 : Int) ≤ (b : Int) + 11 * (n : Int) := by omega
      have hn0 : ¬ ((b : Int) + 11 * (n : Int)) < 0 := by omega
      have hdec : (((b : Int) + 11 * (n : Int)) % 3 == 0) = decide ((b + 11 * n) % 3 = 0) := by
        rw [Bool.eq_iff_iff]; simp; omega
      have hdec2 : decide (((b : Int) + 11 * (n : Int)) % 3 = 0) = decide ((b + 11 * n) % 3 = 0) := by
        rw [Bool.eq_iff_iff]; simp; omega
      generalize decide ((b + 11 * n) % 3 = 0) = bb at L1 hdec hdec2
      go_wp2_with fail
      refine HM.out.mono ?_
      rintro e w1 ⟨rfl, hb1⟩
      have L2 := (hb1.cell (p := ⟨g, k * 2 + 1, none⟩) hgw).trans L1
      have HB1 := Hid.intro (k_trans HB.out hb1)
      have hbx : (bb != bb) = false := by simp
      clear L1 L0 hb1 HM HB
      go_wp2
      go_roundw
      case rel => exact ⟨k + 1, b + 11 * n + 1, by omega, by go_num, by go_num, HEn, HB1⟩
      case measure => simp [intOf]; omega
    · obtain rfl : k = ur.length := by omega
      have HE2 : Hid ((b : Int) = ((kAt (ur.map (·.2)) k0 ur.length : Nat) : Int)) := by show _ = _; rw [HE.out]
      clear HE
      go_wp2
      go_ret
      exact ⟨congrArg (fun x : Int => Ending.returned (Value.int .i64 x)) HE2.out, HB.out⟩

set_option maxRecDepth 100000 in
set_option maxHeartbeats 2000000 in
theorem heldTblTable_any (a1 a2 : Option Addr) (c1 c2 : Nat) (hd ft gp : Value) (cols : List (Int × Int)) (ur : List (Value × R)) (hb : kEnd cols ur ≤ 99999990) (B D : Nat) (w : World) (h : OwnD w B D (.slice a1 cols.length c1) (.slice a2 ur.length c2) (mkCols cols.length 1) (mkU ur (1 + 2 * cols.length) ur.length)) :
    Calls Try.prog 28 #[.agg #[.slice a1 cols.length c1, hd, ft, .slice a2 ur.length c2, gp], .int .i64 1] w fun e w' => e = .returned (.int .i64 ((kEnd cols ur : Nat) : Int)) ∧ Below w.heap.size w w' := by
  have hX := newestB w (.cells #[.slice a1 cols.length c1, hd, ft, .slice a2 ur.length c2, gp] 56)
  have hK := k_alloc (Below.refl w.heap.size w) (.cells #[.slice a1 cols.length c1, hd, ft, .slice a2 ur.length c2, gp] 56)
  have hkm := kAt_mono (ur.map (·.2)) (1 + 2 * cols.length) 0 ur.length (Nat.zero_le _)
  have hkc : 1 + 2 * cols.length ≤ 99999990 := Nat.le_trans hkm hb
  have HD := Hid.intro (h.kept hK)
  have HX := Hid.intro hX
  have HKb := Hid.intro hK
  clear h hkm hX hK
  go_enter Try.func28, Try.ntmps28
  go_upto_region 1 with fail
  generalize w.alloc (.cells #[.slice a1 cols.length c1, hd, ft, .slice a2 ur.length c2, gp] 56) = W0 at HD HX HKb ⊢
  have z0 := cellB (p := 0) HX.out
  have z3 := cellB (p := 3) HX.out
  have HM := Hid.intro (heldTblColS_any (.slice a1 cols.length c1) cols.length 1 (by omega) B W0 HD.out.1)
  have HM2 := Hid.intro (heldTblRowS_any (.slice a2 ur.length c2) ur (1 + 2 * cols.length) (by omega) hb B W0 HD.out.2.1)
  have hke : (0 : Int) ≤ ((kEnd cols ur : Nat) : Int) := by omega
  have HeE : Hid (kAt (ur.map (·.2)) (1 + 2 * cols.length) ur.length = kEnd cols ur) := rfl
  rw [HeE.out] at HM2
  generalize hkE : kEnd cols ur = ke at HM2 hke hb
  have HkE := Hid.intro hkE
  clear hkE
  have hk1 : ¬ (1 + 2 * (cols.length : Int)) < 0 := by omega
  have hk2 : ¬ (ke : Int) < 0 := by omega
  go_wp2_with fail
  refine HM.out.mono ?_
  rintro e w1 ⟨rfl, rfl⟩
  clear HM z0
  go_wp2_with fail
  refine HM2.out.mono ?_
  rintro e w2 ⟨rfl, hb2⟩
  have HB2 := Hid.intro (k_trans HKb.out hb2)
  clear HM2 z3 hb2
  go_wp2
  go_ret
  exact ⟨by rw [HkE.out]; rfl, HB2.out⟩
end Go.Proofs.Ytggmjiddadjilao
namespace Go.Proofs.Ytggmjiddadjilao
open Go.RowKit Go.Lib

theorem infoColn : (Try.prog.info? 120).map (fun i => (i.zero, i.size, i.bytes)) = some (some (Value.agg #[.int .i64 0, .int .i64 0]), 2, 16) := by kernel_rfl
set_option maxRecDepth 100000 in
set_option maxHeartbeats 2000000 in
theorem cloneCol (a : Option Addr) (n cap : Nat) (news : List Value) (hl : news.length = n * 2) (hn : n ≤ 1048576) (h1 : ∀ u ∈ news, u.oneCell' = true) (ha : n ≠ 0 → a ≠ none) (w : World)
    (hc : ∀ p, a = some p → ∀ j u, news[j]? = some u → w.cell? (p.add j) = some u) :
    Calls Try.prog 83 #[.slice a n cap] w fun e w' => ∃ v', e = .returned v' ∧ w'.ownsRow w.heap.size 120 2 v' n news ∧ Below w.heap.size w w' := by
  rcases a with _ | p
  · obtain rfl : n = 0 := by
      rcases Nat.eq_zero_or_pos n with h | h
      · exact h
      · exact absurd rfl (ha (by omega))
    obtain rfl : news = [] := List.length_eq_zero_iff.1 (by omega)
    have hq : ∀ (w : World), (binOp .eql 53 (.slice none 0 cap) (.slice none 0 0)).run Try.prog w = .ok (.bool true) w := fun w => Lib.run_eql_slice_nil w _ _ none 0 cap 0 0 Try.underlying53
    go_enter Try.func83, Try.ntmps83
    go_wp2
    go_ret
    exact ⟨_, rfl, ⟨rfl, .inl ⟨rfl, rfl⟩⟩, Below.refl _ _⟩
  · obtain ⟨i0, hi0, hz0, hz1, hz2⟩ := info_parts infoColn
    have hq : ∀ (w : World), (binOp .eql 53 (.slice (some p) n cap) (.slice none 0 0)).run Try.prog w = .ok (.bool false) w := fun w => Lib.run_eql_slice_nil w _ _ (some p) n cap 0 0 Try.underlying53
    have HC := Hid.intro (hc p rfl)
    clear hc
    go_enter Try.func83, Try.ntmps83
    go_wp2_with (at_builtin; refine wpList_append_own _ rfl _ _ 53 rfl w.heap.size 120 i0 _ 2 16 Try.underlying53 hi0 hz0 hz1 hz2 rfl (by decide) _ _ _ rfl (World.ownsRow_made w #[] 0 (Nat.le_refl _) (Nat.zero_le _) (by simp)) p n cap news rfl hl ?qc2 h1 ?qc4 ?qc5 ?qc6 ?_)
    case qc2 =>
      intro j u hj
      exact Lib.cell?_alloc_some _ (HC.out j u hj)
    case qc4 => rw [Nat.zero_add]; unfold maxLen; omega
    case qc5 => rw [Nat.zero_add]; omega
    case qc6 => simp
    intro v' w1 hown hgrow hnil
    go_wp2
    go_ret
    exact ⟨v', rfl, by simpa using hown, ((Below.refl _ w).alloc (Nat.le_refl _) _).grown hgrow (by simp) (by intro k hk; simp [Value.ownBlock] at hk; omega)⟩

theorem infoRown : (Try.prog.info? 88).map (fun i => (i.zero, i.size, i.bytes)) = some (some (Value.agg #[.slice none 0 0, .bool false]), 2, 32) := by kernel_rfl
set_option maxRecDepth 100000 in
set_option maxHeartbeats 2000000 in
theorem cloneRow (a : Option Addr) (n cap : Nat) (news : List Value) (hl : news.length = n * 2) (hn : n ≤ 1048576) (h1 : ∀ u ∈ news, u.oneCell' = true) (ha : n ≠ 0 → a ≠ none) (w : World)
    (hc : ∀ p, a = some p → ∀ j u, news[j]? = some u → w.cell? (p.add j) = some u) :
    Calls Try.prog 84 #[.slice a n cap] w fun e w' => ∃ v', e = .returned v' ∧ w'.ownsRow w.heap.size 88 2 v' n news ∧ Below w.heap.size w w' := by
  rcases a with _ | p
  · obtain rfl : n = 0 := by
      rcases Nat.eq_zero_or_pos n with h | h
      · exact h
      · exact absurd rfl (ha (by omega))
    obtain rfl : news = [] := List.length_eq_zero_iff.1 (by omega)
    have hq : ∀ (w : World), (binOp .eql 54 (.slice none 0 cap) (.slice none 0 0)).run Try.prog w = .ok (.bool true) w := fun w => Lib.run_eql_slice_nil w _ _ none 0 cap 0 0 Try.underlying54
    go_enter Try.func84, Try.ntmps84
    go_wp2
    go_ret
    exact ⟨_, rfl, ⟨rfl, .inl ⟨rfl, rfl⟩⟩, Below.refl _ _⟩
  · obtain ⟨i0, hi0, hz0, hz1, hz2⟩ := info_parts infoRown
    have hq : ∀ (w : World), (binOp .eql 54 (.slice (some p) n cap) (.slice none 0 0)).run Try.prog w = .ok (.bool false) w := fun w => Lib.run_eql_slice_nil w _ _ (some p) n cap 0 0 Try.underlying54
    have HC := Hid.intro (hc p rfl)
    clear hc
    go_enter Try.func84, Try.ntmps84
    go_wp2_with (at_builtin; refine wpList_append_own _ rfl _ _ 54 rfl w.heap.size 88 i0 _ 2 32 Try.underlying54 hi0 hz0 hz1 hz2 rfl (by decide) _ _ _ rfl (World.ownsRow_made w #[] 0 (Nat.le_refl _) (Nat.zero_le _) (by simp)) p n cap news rfl hl ?qc2 h1 ?qc4 ?qc5 ?qc6 ?_)
    case qc2 =>
      intro j u hj
      exact Lib.cell?_alloc_some _ (HC.out j u hj)
    case qc4 => rw [Nat.zero_add]; unfold maxLen; omega
    case qc5 => rw [Nat.zero_add]; omega
    case qc6 => simp
    intro v' w1 hown hgrow hnil
    go_wp2
    go_ret
    exact ⟨v', rfl, by simpa using hown, ((Below.refl _ w).alloc (Nat.le_refl _) _).grown hgrow (by simp) (by intro k hk; simp [Value.ownBlock] at hk; omega)⟩

theorem infoCelln : (Try.prog.info? 62).map (fun i => (i.zero, i.size, i.bytes)) = some (some (Value.agg #[.string ⟨#[]⟩, .int .i64 0, .int .i64 0, .int .i64 0, .int .i64 0, .int .i64 0, .int .i64 0, .int .i64 0, .int .i64 0, .int .i64 0, .int .i64 0]), 11, 96) := by kernel_rfl
set_option maxRecDepth 100000 in
set_option maxHeartbeats 2000000 in
theorem cloneCell (a : Option Addr) (n cap : Nat) (news : List Value) (hl : news.length = n * 11) (hn : n ≤ 1048576) (h1 : ∀ u ∈ news, u.oneCell' = true) (ha : n ≠ 0 → a ≠ none) (w : World)
    (hc : ∀ p, a = some p → ∀ j u, news[j]? = some u → w.cell? (p.add j) = some u) :
    Calls Try.prog 85 #[.slice a n cap] w fun e w' => ∃ v', e = .returned v' ∧ w'.ownsRow w.heap.size 62 11 v' n news ∧ Below w.heap.size w w' := by
  rcases a with _ | p
  · obtain rfl : n = 0 := by
      rcases Nat.eq_zero_or_pos n with h | h
      · exact h
      · exact absurd rfl (ha (by omega))
    obtain rfl : news = [] := List.length_eq_zero_iff.1 (by omega)
    have hq : ∀ (w : World), (binOp .eql 86 (.slice none 0 cap) (.slice none 0 0)).run Try.prog w = .ok (.bool true) w := fun w => Lib.run_eql_slice_nil w _ _ none 0 cap 0 0 Try.underlying86
    go_enter Try.func85, Try.ntmps85
    go_wp2
    go_ret
    exact ⟨_, rfl, ⟨rfl, .inl ⟨rfl, rfl⟩⟩, Below.refl _ _⟩
  · obtain ⟨i0, hi0, hz0, hz1, hz2⟩ := info_parts infoCelln
    have hq : ∀ (w : World), (binOp .eql 86 (.slice (some p) n cap) (.slice none 0 0)).run Try.prog w = .ok (.bool false) w := fun w => Lib.run_eql_slice_nil w _ _ (some p) n cap 0 0 Try.underlying86
    have HC := Hid.intro (hc p rfl)
    clear hc
    go_enter Try.func85, Try.ntmps85
    go_wp2_with (at_builtin; refine wpList_append_own _ rfl _ _ 86 rfl w.heap.size 62 i0 _ 11 96 Try.underlying86 hi0 hz0 hz1 hz2 rfl (by decide) _ _ _ rfl (World.ownsRow_made w #[] 0 (Nat.le_refl _) (Nat.zero_le _) (by simp)) p n cap news rfl hl ?qc2 h1 ?qc4 ?qc5 ?qc6 ?_)
    case qc2 =>
      intro j u hj
      exact Lib.cell?_alloc_some _ (HC.out j u hj)
    case qc4 => rw [Nat.zero_add]; unfold maxLen; omega
    case qc5 => rw [Nat.zero_add]; omega
    case qc6 => simp
    intro v' w1 hown hgrow hnil
    go_wp2
    go_ret
    exact ⟨v', rfl, by simpa using hown, ((Below.refl _ w).alloc (Nat.le_refl _) _).grown hgrow (by simp) (by intro k hk; simp [Value.ownBlock] at hk; omega)⟩
end Go.Proofs.Ytggmjiddadjilao
namespace Go.Proofs.Ytggmjiddadjilao
open Go.RowKit

set_option maxRecDepth 100000 in
set_option maxHeartbeats 400000 in
theorem implBrdOk (a b : Int) (w : World) :
    Calls Try.prog 87 #[.agg #[.int .i64 a, .int .i64 b]] w fun e w' => e = .returned (.bool (brdOkB a b)) ∧ w' = w.alloc (.cells #[.int .i64 a, .int .i64 b] 60) := by
  by_cases h0 : a = 0
  · subst h0
    go_enter Try.func87, Try.ntmps87
    go_wp2
    go_ret
    exact ⟨retB (brd_zero b).symm, rfl⟩
  by_cases h4 : a = 4
  · subst h4
    go_enter Try.func87, Try.ntmps87
    go_wp2
    go_ret
    exact ⟨retB (brd_four b).symm, rfl⟩
  by_cases h1 : a = 1
  · subst h1
    go_enter Try.func87, Try.ntmps87
    go_wp2_with (go_at_call 55; refine (within_any _ _ _ _).mono ?_; rintro e w' ⟨rfl, rfl⟩)
    go_ret
    exact ⟨retB (brd_seen b (by omega) (by omega)).symm, rfl⟩
  by_cases h2 : a = 2
  · subst h2
    go_enter Try.func87, Try.ntmps87
    go_wp2_with (go_at_call 55; refine (within_any _ _ _ _).mono ?_; rintro e w' ⟨rfl, rfl⟩)
    go_ret
    exact ⟨retB (brd_seen b (by omega) (by omega)).symm, rfl⟩
  by_cases h3 : a = 3
  · subst h3
    go_enter Try.func87, Try.ntmps87
    go_wp2_with (go_at_call 55; refine (within_any _ _ _ _).mono ?_; rintro e w' ⟨rfl, rfl⟩)
    go_ret
    exact ⟨retB (brd_seen b (by omega) (by omega)).symm, rfl⟩
  have e0 : (a == 0) = false := beq_eq_false_iff_ne.2 h0
  have e1 : (a == 1) = false := beq_eq_false_iff_ne.2 h1
  have e2 : (a == 2) = false := beq_eq_false_iff_ne.2 h2
  have e3 : (a == 3) = false := beq_eq_false_iff_ne.2 h3
  have e4 : (a == 4) = false := beq_eq_false_iff_ne.2 h4
  have HB : Hid (brdOkB a b = false) := brd_other b h0 h4 (by omega)
  clear h0 h1 h2 h3 h4
  go_enter Try.func87, Try.ntmps87
  go_wp2
  go_ret
  exact ⟨retB HB.out.symm, rfl⟩
end Go.Proofs.Ytggmjiddadjilao
