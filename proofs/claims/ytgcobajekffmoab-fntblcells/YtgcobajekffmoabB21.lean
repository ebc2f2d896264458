/-
  PROVED HERE: the laws' own pwOk says true; nothing in memory is turned. Also: the law FnTblCells returns true at every code that lies in memory.
-/
import Derived.Test.YtgcobajekffmoabB20
import Derived.Deep.DeepCutAuto
import Derived.Deep.RegionWith
import Derived.Deep.LoopGhost
namespace Go.Proofs.Ytgcobajekffmoab
open Go.RowKit

theorem abcOk : txtOkB ⟨#[97, 98, 32, 99]⟩ = true := by decide +kernel
theorem pwOk_any (w : World) : Calls Try.prog 12 #[] w fun e w' => e = .returned (.bool true) ∧ w' = w := by
  go_enter Try.func12, Try.ntmps12
  go_wp2_with fail
  refine (implTxtOk _ _ (by unfold maxLen; decide)).mono ?_
  rw [abcOk]
  rintro e w1 ⟨rfl, rfl⟩
  go_wp2
  go_ret
  exact ⟨rfl, rfl⟩
end Go.Proofs.Ytgcobajekffmoab
namespace Go.Proofs.Ytgcobajekffmoab
open Go.RowKit

theorem cn_small {t : T} (hD : Drawn t) : ∀ k, k ≤ t.rows.length → cnTo t.rows k ≤ 5 * k
  | 0, _ => by simp [cnTo]
  | k + 1, hk => by
    have := cn_small hD k (by omega)
    obtain ⟨q, hq⟩ := hD.few
    have h2 := hq k
    rw [cnTo_succ (by omega)]
    split at h2 <;> omega
theorem totC_le : ∀ cs : List C, (∀ x ∈ cs, x.s.size ≤ 61) → totC cs ≤ 62 * cs.length
  | [], _ => by simp [totC]
  | x :: r, h => by
    have h1 := h x (by simp)
    have h2 := totC_le r (fun y hy => h y (by simp [hy]))
    simp only [totC, List.length_cons]
    omega
theorem totR_le : ∀ rs : List R, (∀ r ∈ rs, totC r.cells ≤ 310) → totR rs ≤ 311 * rs.length
  | [], _ => by simp [totR]
  | x :: r, h => by
    have h1 := h x (by simp)
    have h2 := totR_le r (fun y hy => h y (by simp [hy]))
    simp only [totR, List.length_cons]
    omega
theorem tot_small {t : T} (hD : Drawn t) : totR t.rows ≤ 1048576 := by
  have h1 := totR_le t.rows (fun r hr => by
    have h2 := totC_le r.cells (fun x hx => (hD.cells r hr x hx).1)
    obtain ⟨i, hi, rfl⟩ := List.mem_iff_getElem.1 hr
    obtain ⟨q, hq⟩ := hD.few
    have h3 := hq i
    have e : t.rows.getD i dR = t.rows[i] := by simp [List.getD, hi]
    rw [e] at h3
    split at h3 <;> omega)
  have := hD.rows
  omega

set_option maxRecDepth 100000 in
set_option maxHeartbeats 4000000 in
theorem lawTblCells_walk (A : Option Addr) (len cap : Nat) (hlen : len ≤ 1048576) (w : World) (h : IsCode w A len cap) :
    Calls Try.prog 4 #[.slice A len cap] w fun e w' => e = .returned (.bool true) ∧ Below w.heap.size w w' := by
  have hl : ¬ (1048576 : Int) < (len : Int) := by omega
  have HD := Hid.intro h
  clear h
  go_enter Try.func4, Try.ntmps4
  go_wp2_with fail
  refine (drawTblCells_any _ _ _ _ HD.out).mono ?_
  rintro e w1 ⟨ac, ar, cc, cr, t, rfl, hD, hC1, hW1, hb1⟩
  have HS : Hid (St w w1.heap.size ac ar cc cr t (w1.alloc (.cells #[.slice ac t.cols.length cc, .int .i64 t.head, .int .i64 t.foot, .slice ar t.rows.length cr, .int .i64 t.gap] 26))) := ⟨hb1.alloc hb1.size _, TA.kept ⟨hC1, hW1⟩ (k_alloc (Below.refl _ _) _), newestB _ _⟩
  have HDr := Hid.intro hD
  have hr9 := hD.rows
  clear hC1 hW1 hb1 hD HD
  go_wp2_with fail
  obtain ⟨W1, hW1⟩ : ∃ W1, w1.alloc (.cells #[.slice ac t.cols.length cc, .int .i64 t.head, .int .i64 t.foot, .slice ar t.rows.length cr, .int .i64 t.gap] 26) = W1 := ⟨_, rfl⟩
  rw [hW1] at HS ⊢
  clear hW1
  go_loop [4, 5] (fun n i => ∃ k : Nat, k ≤ t.rows.length ∧ i = .int .i64 k ∧ n = .int .i64 (cnTo t.rows k)) (fun _ i => t.rows.length - (intOf i).toNat)
  case atStart => exact ⟨0, Nat.zero_le _, rfl, by simp [cnTo]⟩
  case round =>
    obtain ⟨k, hk, rfl, rfl⟩ := hrel
    obtain ⟨z0, z1, z2, z3, z4⟩ := HS.out.at
    have hle := cn_small HDr.out k hk
    by_cases hlt : k < t.rows.length
    · obtain ⟨b, off, cap', e', hc1, hc2, hbl, u, hx0, hx1, hx⟩ := At.get HS.out.2.1.2 hlt
      simp only [Value.slice.injEq, true_and] at e'
      obtain ⟨rfl, rfl⟩ := e'
      have HC := Hid.intro (cnTo_succ hlt)
      have hle2 := cn_small HDr.out (k + 1) (by omega)
      rw [HC.out] at hle2
      generalize t.rows.getD k dR = x at hx1 hx HC hle2
      obtain ⟨ua, ucap, rfl, hul⟩ := At.form hx
      unfold maxLen at hc2 hul
      clear hx hx1
      go_wp2
      go_round
      case rel => exact ⟨k + 1, by omega, by go_num, by rw [HC.out]; go_num⟩
      case measure => simp [intOf]; omega
    · obtain rfl : k = t.rows.length := by omega
      go_wp2_with fail
      refine (implGrdOf ac ar cc cr t HDr.out _ HS.out.2.1.1 HS.out.2.1.2).mono ?_
      rintro e w2 ⟨vg, rfl, hO2, hb2⟩
      obtain ⟨ag, cg, rfl⟩ := own_slice hO2
      have hG2 := hO2.at (gOf_gok HDr.out)
      have hS2 := HS.out.kept hb2
      have HG : Hid (SGr w w1.heap.size w2.heap.size ac ar cc cr t ag cg (w2.alloc (.cells #[.int .i64 (gOf t).rows, .int .i64 (gOf t).cols, .slice ag (gOf t).cells.length cg] 39))) :=
        ⟨hS2.kept (k_alloc (Below.refl _ _) _), (hG2.base (by have := HS.out.1.size; omega)).kept (k_alloc (Below.refl _ _) _), newestB _ _⟩
      clear hO2 hb2 hG2 hS2 HS z0 z1 z2 z3 z4
      go_upto_region 10 with fail
      obtain ⟨W2, hW2⟩ : ∃ W2, w2.alloc (.cells #[.int .i64 (gOf t).rows, .int .i64 (gOf t).cols, .slice ag (gOf t).cells.length cg] 39) = W2 := ⟨_, rfl⟩
      rw [hW2] at HG ⊢
      clear hW2
      obtain ⟨z0, z1, z2, z3, z4⟩ := HG.out.1.at
      obtain ⟨y0, y1, y2⟩ := HG.out.at
      have HTC := Hid.intro (fun (W : World) (h : St w w1.heap.size ac ar cc cr t W) => implTblCells ac ar cc cr t (tot_small HDr.out) W h.2.1.2)
      have HLN := Hid.intro (gridOf_len t)
      have hn45 := cn_small HDr.out t.rows.length (Nat.le_refl _)
      generalize cnTo t.rows t.rows.length = n at HTC HLN hn45 ⊢
      have hnn : ((n : Int) != (n : Int)) = false := by simp
      go_cut [40] (fun s W => s = .bool false ∧ Hid (SGr w w1.heap.size w2.heap.size ac ar cc cr t ag cg W))
      case first =>
        have HG0 := Hid.intro (HG.out.kept (k_drew (Below.refl _ _)))
        go_region_with (first
          | (go_at_call 16; refine (specGrdOf ac ar cc cr t HDr.out _ HG0.out.1.2.1.1 HG0.out.1.2.1.2).mono ?_; rintro e w3 ⟨vg3, rfl, hO3, hb3⟩; obtain ⟨a3, c3, rfl⟩ := own_slice hO3; have HY := Hid.intro (hO3.at (gOf_gok HDr.out)); have HG3 := Hid.intro (HG0.out.kept hb3); clear hO3 hb3; obtain ⟨p0, p1, p2⟩ := HG3.out.at)
          | (go_at_call 15; refine (pwGrid_any _ _ _ _ _ _ HG3.out.2.1 HY.out).mono ?_; rintro e w4 ⟨rfl, hb4⟩; have HG4 := Hid.intro (HG3.out.kept hb4); clear hb4; obtain ⟨r0, r1, r2, r3, r4⟩ := HG4.out.1.at)
          | (go_at_call 17; refine (HTC.out _ HG4.out.1).mono ?_; rintro e w5 ⟨rfl, hb5⟩; have HG5 := Hid.intro (HG4.out.kept hb5); clear hb5))
        all_goals (go_wp2_with fail; go_meet; case rel => exact ⟨rfl, HG5⟩)
      case rest =>
        obtain ⟨rfl, HG1⟩ := hcut
        clear z0 z1 z2 z3 z4 y0 y1 y2 HG HTC
        obtain ⟨z0, z1, z2, z3, z4⟩ := HG1.out.1.at
        obtain ⟨y0, y1, y2⟩ := HG1.out.at
        have KO := Hid.intro (specTblOk ac ar cc cr t wc HG1.out.1.2.1.1 HG1.out.1.2.1.2)
        cases htk : tblB t with
        | true =>
          rw [gOf_ok htk] at y0 y1 y2
          have hgl : (((gridOf t).length : Int) == (n : Int)) = true := by rw [HLN.out]; simp
          have hrr : (((t.rows.length : Nat) : Int) == ((t.rows.length : Nat) : Int)) = true := by simp
          have HB := Hid.intro HG1.out.1.1
          clear htk KO HLN HG1
          generalize colsOf (max 1 (t.cols.length : Int)) (gridOf t) = C at y1
          go_wp2_with fail
          refine (pwOk_any _).mono ?_
          rintro e w5 ⟨rfl, rfl⟩
          go_wp2
          go_ret
          exact ⟨rfl, HB.out⟩
        | false =>
          rw [htk] at KO
          rw [gOf_no htk] at y0 y1 y2
          have HB := Hid.intro HG1.out.1.1
          have hgb : w2.heap.size < wc.heap.size := (Array.getElem?_eq_some_iff.1 HG1.out.2.2).1
          clear htk HLN HG1
          by_cases hn0 : n = 0
          · subst hn0
            by_cases hr0 : t.rows.length = 0
            · have hrr : ((0 : Int) == ((t.rows.length : Nat) : Int)) = true := by simp [hr0]
              clear hr0
              go_wp2_with fail
              refine (pwOk_any _).mono ?_
              rintro e w5 ⟨rfl, rfl⟩
              go_wp2
              go_ret
              exact ⟨rfl, HB.out⟩
            · have hrr : ((0 : Int) == ((t.rows.length : Nat) : Int)) = false := by simp; omega
              clear hr0
              go_wp2_with fail
              refine KO.out.mono ?_
              rintro e w6 ⟨rfl, hb6⟩
              have HB6 := Hid.intro (HB.out.trans (hb6.mono HB.out.size))
              have y6 := (hb6.cell (p := ⟨w2.heap.size, 0, none⟩) hgb).trans y0
              clear hb6
              go_wp2_with fail
              refine (pwOk_any _).mono ?_
              rintro e w5 ⟨rfl, rfl⟩
              go_wp2
              go_ret
              exact ⟨rfl, HB6.out⟩
          · have hnz : ((0 : Int) == (n : Int)) = false := by simp; omega
            go_wp2_with fail
            refine KO.out.mono ?_
            rintro e w6 ⟨rfl, hb6⟩
            have HB6 := Hid.intro (HB.out.trans (hb6.mono HB.out.size))
            have y6 := (hb6.cell (p := ⟨w2.heap.size, 0, none⟩) hgb).trans y0
            clear hb6
            go_wp2_with fail
            refine (pwOk_any _).mono ?_
            rintro e w5 ⟨rfl, rfl⟩
            go_wp2
            go_ret
            exact ⟨rfl, HB6.out⟩

theorem lawTblCells (a : Option Addr) (len cap : Nat) (w : World) (h : IsCode w a len cap) :
    Calls Try.prog 4 #[.slice a len cap] w fun e w' => e = .returned (.bool true) ∧ Below w.heap.size w w' := by
  by_cases hl : len ≤ 1048576
  · exact lawTblCells_walk a len cap hl w h
  · have hl' : (1048576 : Int) < (len : Int) := by omega
    clear h
    go_enter Try.func4, Try.ntmps4
    go_wp2
    go_ret
    exact ⟨rfl, Below.refl _ _⟩
end Go.Proofs.Ytgcobajekffmoab
