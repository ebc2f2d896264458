/-
  PROVED HERE: the drawing of any table (l20AnyTable) gives some table in new memory, of no more than nine rows and so on, and turns nothing that was in memory but the reader.
-/
import Derived.Test.YtggmjiddadjilalB22
import Derived.Deep.LoopGhost
namespace Go.Proofs.Ytggmjiddadjilal
open Go.RowKit

set_option maxRecDepth 100000 in
set_option maxHeartbeats 4000000 in
theorem l20AnyTable_any (r B : Nat) (n : Int) (hn : 1 ≤ n) (w : World) (h : Rd w r B) (hB : B ≤ 100) :
    Calls Try.prog 37 #[.pointer (some ⟨r, 0, none⟩), .int .i64 n] w fun e w' => AnyPost r B w e w' := by
  have hlt := h.lt
  have HR : Hid (Rd w r B) := h
  clear h
  go_enter Try.func37, Try.ntmps37
  go_wp2_with fail
  refine (l20Table_any r B _ (HR.out.alloc _) (by omega)).mono ?_
  rintro e w1 ⟨vc, vr, t, ur, rfl, htr, htk, hS, hO1, hW1, hR1, hb1⟩
  obtain ⟨hu, hcl, hhd, hft, hgp⟩ := drawn_of htk htr
  have hsz0 : (w.alloc (.cells #[.slice none 0 0, .int .i64 0, .int .i64 0, .slice none 0 0, .int .i64 0] 37)).heap.size = w.heap.size + 1 := by simp
  rw [hsz0] at hO1 hW1
  have hX1 : w1.heap[w.heap.size]? = some (.cells #[.slice none 0 0, .int .i64 0, .int .i64 0, .slice none 0 0, .int .i64 0] 37) := (hb1.block w.heap.size (by simp) (by omega)).trans (newestB _ _)
  have hB1 : Bk r w w1 := ((Bk.refl r w).alloc _).trans hb1
  have hz1 : w.heap.size < w1.heap.size := (Array.getElem?_eq_some_iff.1 hX1).1
  obtain ⟨ac, cc, rfl, _⟩ := row_form hO1
  obtain ⟨ar, cr, rfl, _⟩ := row_form hW1.own
  obtain ⟨ps, hd, ft, rows, gp⟩ := t
  dsimp only at htr hu hcl hhd hft hgp hO1
  subst htr
  clear htk hb1
  -- the table's own block
  have hla := bk_alloc r w1 (.cells #[.slice ac ps.length cc, .int .i64 hd, .int .i64 ft, .slice ar ur.length cr, .int .i64 gp] 37)
  have HS := Hid.intro hS
  have HO : Hid (OwnCol _ w.heap.size _ ps) := row_base (row_bk hO1 hla (by omega)) (by omega)
  have HW : Hid (OwnR _ w.heap.size _ ur) := (hW1.bk hla (by omega)).base (by omega)
  have HT := Hid.intro (newestB w1 (.cells #[.slice ac ps.length cc, .int .i64 hd, .int .i64 ft, .slice ar ur.length cr, .int .i64 gp] 37))
  have HX := Hid.intro ((hla.block w.heap.size (by omega) (by omega)).trans hX1)
  have HBk := Hid.intro (hB1.trans hla)
  have HRd := Hid.intro (hR1.alloc (.cells #[.slice ac ps.length cc, .int .i64 hd, .int .i64 ft, .slice ar ur.length cr, .int .i64 gp] 37))
  clear hS hO1 hW1 hR1 hX1 hB1 hla hsz0
  go_wp2_with fail
  refine (pick_any _ _ _ _ HRd.out (by omega)).mono ?_
  rintro e w2 ⟨k2, rfl, hk2, hR2, hb2⟩
  obtain ⟨k21, k22⟩ := hk2 hn
  have HT2 := Hid.intro ((hb2.block w1.heap.size (by simp) (by omega)).trans HT.out)
  have HX2 := Hid.intro ((hb2.block w.heap.size (by simp; omega) (by omega)).trans HX.out)
  have HO2 : Hid (OwnCol w2 w.heap.size _ ps) := row_bk HO.out hb2 hlt
  have HW2 : Hid (OwnR w2 w.heap.size _ ur) := HW.out.bk hb2 hlt
  have HB2 := Hid.intro (HBk.out.trans hb2)
  have HR2 := Hid.intro hR2
  clear HT HX HO HW HBk HRd hR2 hb2 hk2
  have htr : r < w1.heap.size := by omega
  have htn : w.heap.size ≤ w1.heap.size := by omega
  have htb : w1.heap.size ≠ r := by omega
  by_cases h2 : 0 < k2
  · skip
    have HWx : Hid (w2.ownsRow w.heap.size 51 2 (.slice ar ur.length cr) ur.length (ur.flatMap rowVs) ∧ ∀ p ∈ ur, OwnC w2 w.heap.size p.1 p.2.cells) := ⟨HW2.out.own, HW2.out.cells⟩
    obtain ⟨⟨d0, d1, d2, d3, d4⟩, _⟩ := fiveZ HT2.out
    obtain ⟨⟨x0, x1, x2, x3, x4⟩, y0, y1, y2, y3, y4⟩ := fiveZ HX2.out
    have k5 := st5_bk w2 w.heap.size (.slice ac ps.length cc) (.int .i64 hd) (.int .i64 ft) (.slice ar ur.length cr) (.int .i64 gp)
    have HZ := own_st5' HO2.out HWx.out.1 HWx.out.2 HX2.out (.slice ac ps.length cc) (.int .i64 hd) (.int .i64 ft) (.slice ar ur.length cr) (.int .i64 gp)
    have HZ1 := Hid.intro HZ.1.at
    have HZ2 := Hid.intro (rows_at HZ.2.1 HZ.2.2 (fun p hp => (HS.out p hp).2))
    have HZR : Hid (Rd (st5 w2 w.heap.size (.slice ac ps.length cc) (.int .i64 hd) (.int .i64 ft) (.slice ar ur.length cr) (.int .i64 gp)) r (B + 3000)) := (HR2.out.keep (fun k hk => k5.block k (by have := HR2.out.lt; omega) (by omega))).mono (by omega)
    have HZB : Hid (Bk r w (st5 w2 w.heap.size (.slice ac ps.length cc) (.int .i64 hd) (.int .i64 ft) (.slice ar ur.length cr) (.int .i64 gp))) := HB2.out.via k5 (Nat.le_refl _)
    clear HT2 HX2 HO2 HWx HB2 HR2 k5 HZ
    go_wp2
    exact bodyPost_ret (v := .agg #[.slice ac ps.length cc, .int .i64 hd, .int .i64 ft, .slice ar ur.length cr, .int .i64 gp]) (by simp [results, Try.results37, go_sem, x0, x1, x2, x3, x4]) rfl (AnyPost.mk' (hd := hd) (ft := ft) ⟨by simp; omega, by dsimp only; omega, by dsimp only; omega, by dsimp only; omega, by dsimp only; omega, cells_of HS.out, few_of HS.out⟩ HZ1.out HZ2.out HZR.out HZB.out)
  · have c3 : w2.cell? ⟨w1.heap.size, 3, none⟩ = some (.slice ar ur.length cr) := cellB HT2.out
    go_wp2_with fail
    refine (pick_any _ _ _ _ HR2.out (by omega)).mono ?_
    rintro e w3 ⟨k3, rfl, hk3, hR3, hb3⟩
    obtain ⟨k31, k32⟩ := hk3 (by omega)
    obtain ⟨kk, rfl⟩ := Int.eq_ofNat_of_zero_le k31
    have HT3 := Hid.intro ((hb3.block w1.heap.size (Array.getElem?_eq_some_iff.1 HT2.out).1 htb).trans HT2.out)
    have HX3 := Hid.intro ((hb3.block w.heap.size (Array.getElem?_eq_some_iff.1 HX2.out).1 (by omega)).trans HX2.out)
    have HO3 : Hid (OwnCol w3 w.heap.size _ ps) := row_bk HO2.out hb3 hlt
    have HW3 : Hid (OwnR w3 w.heap.size _ ur) := HW2.out.bk hb3 hlt
    have HB3 := Hid.intro (HB2.out.trans hb3)
    have HR3 := Hid.intro hR3
    clear HT2 HX2 HO2 HW2 HB2 HR2 hR3 hb3 hk3 c3
    go_wp2_with fail
    refine (pick_any _ _ _ _ HR3.out (by omega)).mono ?_
    rintro e w4 ⟨k4, rfl, hk4, hR4, hb4⟩
    obtain ⟨k41, k42⟩ := hk4 (by omega)
    have HT := Hid.intro ((hb4.block w1.heap.size (Array.getElem?_eq_some_iff.1 HT3.out).1 htb).trans HT3.out)
    have HX := Hid.intro ((hb4.block w.heap.size (Array.getElem?_eq_some_iff.1 HX3.out).1 (by omega)).trans HX3.out)
    have HO : Hid (OwnCol w4 w.heap.size _ ps) := row_bk HO3.out hb4 hlt
    have HW : Hid (OwnR w4 w.heap.size _ ur) := HW3.out.bk hb4 hlt
    have HB := Hid.intro (HB3.out.trans hb4)
    have HR := Hid.intro hR4
    clear HT3 HX3 HO3 HW3 HB3 HR3 hR4 hb4 hk4
    rcases (by omega : k4 = 0 ∨ k4 = 1 ∨ k4 = 2 ∨ k4 = 3 ∨ k4 = 4 ∨ k4 = 5) with rfl | rfl | rfl | rfl | rfl | rfl
    · skip
      go_wp2_with fail
      have hct := row_ne_block HO.out HT.out (by decide)
      have hrt := row_ne_block HW.out.own HT.out (by decide)
      have hut : ∀ p ∈ ur, p.1.ownBlock = none ∨ p.1.ownBlock ≠ some w1.heap.size := fun p hp => row_ne_block (HW.out.cells p hp) HT.out (by decide)
      have hRd := HR.out
      have hBk := HB.out
      have hTb := HT.out
      have hF := FA.stays (ps := ps) (w := w) (by omega) hct hrt hut
      have hFr : FA w (.slice ac ps.length cc) (.slice ar ur.length cr) ps ur w4 := ⟨HO.out, HW.out, HX.out⟩
      have hrn : ur.length ≤ 9 := by omega
      clear HT HX HO HW HB HR
      refine wp_region_inv2 (hdR r (B + 2000 + 1 + 1 + 1) w.heap.size w (FA w (.slice ac ps.length cc) (.slice ar ur.length cr) ps ur) w1.heap.size #[.slice ac ps.length cc, .int .i64 hd, .int .i64 ft, .slice ar ur.length cr, .int .i64 gp] ar ur.length cr (fun v33 v34 v35 v36 v37 v38 v39 v40 v41 => ⟨#[.pointer (some ⟨r, 0, none⟩), .int .i64 n, undef, undef, .pointer (some ⟨w.heap.size, 0, none⟩), .pointer (some ⟨w1.heap.size, 0, none⟩), .int .i64 (kk : Int), .pointer (some ⟨r, 0, none⟩), .agg #[.slice ac ps.length cc, .int .i64 hd, .int .i64 ft, .slice ar ur.length cr, .int .i64 gp], .pointer (some ⟨r, 0, none⟩), .int .i64 n, .int .i64 k2, .bool (decide (0 < k2)), undef, .pointer (some ⟨r, 0, none⟩), .pointer (some ⟨w1.heap.size, 3, none⟩), .slice ar ur.length cr, .int .i64 (ur.length : Int), .int .i64 (kk : Int), .pointer (some ⟨r, 0, none⟩), .int .i64 0, undef, undef, undef, undef, undef, undef, undef, undef, undef, undef, .bool true, .bool true, v33, v34, v35, v36, v37, v38, v39, v40, v41, undef, undef, undef, undef, undef, undef, undef, undef, undef, undef, undef, undef, undef, undef, undef, undef, undef, undef, undef, undef, undef, undef, undef, undef, undef, undef, undef, undef, undef, undef, undef, undef, undef, undef, undef, undef, undef, undef, undef, undef, undef, undef, undef, undef, undef, undef, undef, undef, undef, undef, undef, undef], []⟩)) (by kernel_rfl) (by kernel_rfl) ?hs ?hd ?h0
      case h0 =>
        exact ⟨_, _, _, _, _, _, _, _, _, rfl, ⟨(fun h => by cases h), (fun h => by cases h), (fun h => by cases h), (fun h _ => by cases h), (fun h => by cases h), (fun h => by cases h), (fun h _ => by cases h), (fun h => by cases h), (fun h => by cases h), hRd.drew, hBk.drew, hF _ _ hFr (Off.bk ((Bk.refl r _).drew) hlt), (fun _ => hTb), (fun h => by cases h)⟩⟩
      case hs =>
        rename_i K0 hK0
        clear hK0
        intro L a W i o hJ hcl ho hLi haft K hK
        obtain ⟨v33, v34, v35, v36, v37, v38, v39, v40, v41, ha, J⟩ := hJ
        dsimp only at ha
        subst ha
        have hi : i < 10 := by
          have := (Array.getElem?_eq_some_iff.1 ho).1
          simpa using this
        rcases (by omega : i = 0 ∨ i = 1 ∨ i = 2 ∨ i = 3 ∨ i = 4 ∨ i = 5 ∨ i = 6 ∨ i = 7 ∨ i = 8 ∨ i = 9) with rfl | rfl | rfl | rfl | rfl | rfl | rfl | rfl | rfl | rfl
        all_goals
          simp only [List.getElem?_toArray, List.getElem?_cons_zero, List.getElem?_cons_succ, Option.some.injEq] at ho
          subst ho
          clear hi
        · skip
          have hLast : L 9 = false := (hcl 9 0 (by kernel_rfl) hLi)
          have hT : L 9 = false := (hcl 9 0 (by kernel_rfl) hLi)
          go_simp
          exact hK _ _ ⟨_, _, _, _, _, _, _, _, _, rfl, ⟨(fun _ => rfl), (fun h => J.f1 (un h)), (fun h => J.f2 (un h)), (fun h h2 => J.f3 (un h) (by rwa [upd_ne rfl] at h2)), (fun h => J.f4 (un h)), (fun h => J.f5 (un h)), (fun h h2 => J.f6 (un h) (by rwa [upd_ne rfl] at h2)), (fun h => J.f7 (un h)), (fun h => J.f8 (un h)), (by rw [hdRCnt_same (by decide)]; exact J.rd), (J.bk), (J.fr), (fun h => J.tb0 (un h)), (fun h => by rw [upd_ne rfl, hLast] at h; cases h)⟩⟩
        · skip
          have hLast : L 9 = false := (hcl 9 1 (by kernel_rfl) hLi)
          have hT : L 9 = false := (hcl 9 1 (by kernel_rfl) hLi)
          obtain rfl := J.f0 (haft ⟨0, .data⟩ (by simp) rfl)
          have hc : W.cell? ⟨w1.heap.size, 3, none⟩ = some (.slice ar ur.length cr) := (cellB (J.tb0 hLast)).trans rfl
          go_simp
          exact hK _ _ ⟨_, _, _, _, _, _, _, _, _, rfl, ⟨(fun h => J.f0 (un h)), (fun _ => rfl), (fun h => J.f2 (un h)), (fun h h2 => J.f3 (un h) (by rwa [upd_ne rfl] at h2)), (fun h => J.f4 (un h)), (fun h => J.f5 (un h)), (fun h h2 => J.f6 (un h) (by rwa [upd_ne rfl] at h2)), (fun h => J.f7 (un h)), (fun h => J.f8 (un h)), (by rw [hdRCnt_same (by decide)]; exact J.rd), (J.bk), (J.fr), (fun h => J.tb0 (un h)), (fun h => by rw [upd_ne rfl, hLast] at h; cases h)⟩⟩
        · skip
          have hLast : L 9 = false := (hcl 9 2 (by kernel_rfl) hLi)
          have hT : L 9 = false := (hcl 9 2 (by kernel_rfl) hLi)
          obtain rfl := J.f1 (haft ⟨1, .data⟩ (by simp) rfl)
          go_simp
          exact hK _ _ ⟨_, _, _, _, _, _, _, _, _, rfl, ⟨(fun h => J.f0 (un h)), (fun h => J.f1 (un h)), (fun _ => rfl), (fun h h2 => J.f3 (un h) (by rwa [upd_ne rfl] at h2)), (fun h => J.f4 (un h)), (fun h => J.f5 (un h)), (fun h h2 => J.f6 (un h) (by rwa [upd_ne rfl] at h2)), (fun h => J.f7 (un h)), (fun h => J.f8 (un h)), (by rw [hdRCnt_same (by decide)]; exact J.rd), (J.bk), (J.fr), (fun h => J.tb0 (un h)), (fun h => by rw [upd_ne rfl, hLast] at h; cases h)⟩⟩
        · skip
          have hLast : L 9 = false := (hcl 9 3 (by kernel_rfl) hLi)
          have hT : L 9 = false := (hcl 9 3 (by kernel_rfl) hLi)
          have hsz := J.bk.size
          obtain rfl := J.f2 (haft ⟨2, .data⟩ (by simp) rfl)
          go_simp
          exact hK _ _ ⟨_, _, _, _, _, _, _, _, _, rfl, ⟨(fun h => J.f0 (un h)), (fun h => J.f1 (un h)), (fun h => J.f2 (un h)), (fun _ _ => ⟨W.heap.size, _, rfl, Hp.new hsz _, rfl⟩), (fun h => J.f4 (un h)), (fun h => J.f5 (un h)), (fun h h2 => (J.f6 (un h) (by rwa [upd_ne rfl] at h2)).bk hlt (bk_alloc r W _)), (fun h => J.f7 (un h)), (fun h => J.f8 (un h)), (by rw [hdRCnt_same (by decide)]; exact J.rd.alloc _), (J.bk.alloc _), (hF _ _ J.fr (Off.bk (bk_alloc r W _) hlt)), (fun h => (Below.heap_alloc _ _ _ (Array.getElem?_eq_some_iff.1 (J.tb0 (un h))).1).trans (J.tb0 (un h))), (fun h => by rw [upd_ne rfl, hLast] at h; cases h)⟩⟩
        · skip
          have hLast : L 9 = false := (hcl 9 4 (by kernel_rfl) hLi)
          have hT : L 9 = false := (hcl 9 4 (by kernel_rfl) hLi)
          go_simp
          exact hK _ _ ⟨_, _, _, _, _, _, _, _, _, rfl, ⟨(fun h => J.f0 (un h)), (fun h => J.f1 (un h)), (fun h => J.f2 (un h)), (fun h h2 => J.f3 (un h) (by rwa [upd_ne rfl] at h2)), (fun _ => rfl), (fun h => J.f5 (un h)), (fun h h2 => J.f6 (un h) (by rwa [upd_ne rfl] at h2)), (fun h => J.f7 (un h)), (fun h => J.f8 (un h)), (by rw [hdRCnt_same (by decide)]; exact J.rd), (J.bk), (J.fr), (fun h => J.tb0 (un h)), (fun h => by rw [upd_ne rfl, hLast] at h; cases h)⟩⟩
        · skip
          have hLast : L 9 = false := (hcl 9 5 (by kernel_rfl) hLi)
          have hT : L 9 = false := (hcl 9 5 (by kernel_rfl) hLi)
          obtain rfl := J.f4 (haft ⟨4, .data⟩ (by simp) rfl)
          go_simp
          go_wp2_with (go_at_call 38; refine (pick_any r _ _ _ J.rd (by have := hdRCnt_le L; omega)).mono ?_; rintro e W2 ⟨k, rfl, hk, hR, hb⟩)
          have hk2 := hk (by omega)
          exact ⟨_, _, _, _, _, _, _, _, _, rfl, ⟨(fun h => J.f0 (un h)), (fun h => J.f1 (un h)), (fun h => J.f2 (un h)), (fun h h2 => (J.f3 (un h) (by rwa [upd_ne rfl] at h2)).bk hlt hb), (fun h => J.f4 (un h)), (fun _ => ⟨k, rfl, by omega, by omega⟩), (fun h h2 => (J.f6 (un h) (by rwa [upd_ne rfl] at h2)).bk hlt hb), (fun h => J.f7 (un h)), (fun h => J.f8 (un h)), (by rw [hdRCnt_5 hLi, ← Nat.add_assoc]; exact hR), (J.bk.trans hb), (hF _ _ J.fr (Off.bk hb hlt)), (fun h => (hb.block w1.heap.size (Array.getElem?_eq_some_iff.1 (J.tb0 (un h))).1 htb).trans (J.tb0 (un h))), (fun h => by rw [upd_ne rfl, hLast] at h; cases h)⟩⟩
        · skip
          have hLast : L 9 = false := (hcl 9 6 (by kernel_rfl) hLi)
          have hT : L 9 = false := (hcl 9 6 (by kernel_rfl) hLi)
          obtain ⟨g, arr, rfl, hg, rfl⟩ := J.f3 (haft ⟨3, .data⟩ (by simp) rfl) hT
          obtain ⟨k, rfl, k0, k1⟩ := J.f5 (haft ⟨5, .data⟩ (by simp) rfl)
          have k2 : k < 3 := by omega
          obtain ⟨v, hv⟩ := at3n ur.length hrn k k0 k2
          go_simp
          exact hK _ _ ⟨_, _, _, _, _, _, _, _, _, rfl, ⟨(fun h => J.f0 (un h)), (fun h => J.f1 (un h)), (fun h => J.f2 (un h)), (fun h h2 => J.f3 (un h) (by rwa [upd_ne rfl] at h2)), (fun h => J.f4 (un h)), (fun h => J.f5 (un h)), (fun _ _ => ⟨g, _, _, rfl, hg, v, hv⟩), (fun h => J.f7 (un h)), (fun h => J.f8 (un h)), (by rw [hdRCnt_same (by decide)]; exact J.rd), (J.bk), (J.fr), (fun h => J.tb0 (un h)), (fun h => by rw [upd_ne rfl, hLast] at h; cases h)⟩⟩
        · skip
          have hLast : L 9 = false := (hcl 9 7 (by kernel_rfl) hLi)
          have hT : L 9 = false := (hcl 9 7 (by kernel_rfl) hLi)
          obtain ⟨g, k, arr, rfl, hg, v, hv, v0, v1⟩ := J.f6 (haft ⟨6, .data⟩ (by simp) rfl) hT
          have hc : W.cell? ⟨g, k, none⟩ = some (.int .i64 v) := (cellB hg.2).trans hv
          go_simp
          exact hK _ _ ⟨_, _, _, _, _, _, _, _, _, rfl, ⟨(fun h => J.f0 (un h)), (fun h => J.f1 (un h)), (fun h => J.f2 (un h)), (fun h h2 => J.f3 (un h) (by rwa [upd_ne rfl] at h2)), (fun h => J.f4 (un h)), (fun h => J.f5 (un h)), (fun h h2 => J.f6 (un h) (by rwa [upd_ne rfl] at h2)), (fun _ => ⟨v, rfl, v0, v1⟩), (fun h => J.f8 (un h)), (by rw [hdRCnt_same (by decide)]; exact J.rd), (J.bk), (J.fr), (fun h => J.tb0 (un h)), (fun h => by rw [upd_ne rfl, hLast] at h; cases h)⟩⟩
        · skip
          have hLast : L 9 = false := (hcl 9 8 (by kernel_rfl) hLi)
          have hT : L 9 = false := (hcl 9 8 (by kernel_rfl) hLi)
          go_simp
          exact hK _ _ ⟨_, _, _, _, _, _, _, _, _, rfl, ⟨(fun h => J.f0 (un h)), (fun h => J.f1 (un h)), (fun h => J.f2 (un h)), (fun h h2 => J.f3 (un h) (by rwa [upd_ne rfl] at h2)), (fun h => J.f4 (un h)), (fun h => J.f5 (un h)), (fun h h2 => J.f6 (un h) (by rwa [upd_ne rfl] at h2)), (fun h => J.f7 (un h)), (fun _ => rfl), (by rw [hdRCnt_same (by decide)]; exact J.rd), (J.bk), (J.fr), (fun h => J.tb0 (un h)), (fun h => by rw [upd_ne rfl, hLast] at h; cases h)⟩⟩
        · skip
          have hLast : L 9 = false := hLi
          have hT : L 9 = false := hLi
          obtain ⟨v, rfl, v0, v1⟩ := J.f7 (haft ⟨7, .data⟩ (by simp) rfl)
          obtain rfl := J.f8 (haft ⟨8, .data⟩ (by simp) rfl)
          have hc := (cellB (p := 1) (J.tb0 hLast)).trans rfl
          have hf : W.frozen? ⟨w1.heap.size, 1, none⟩ = false := freeB (J.tb0 hLast)
          go_simp
          exact hK _ _ ⟨_, _, _, _, _, _, _, _, _, rfl, ⟨(fun h => J.f0 (un h)), (fun h => J.f1 (un h)), (fun h => J.f2 (un h)), (fun _ h2 => by rw [upd_self] at h2; cases h2), (fun h => J.f4 (un h)), (fun h => J.f5 (un h)), (fun _ h2 => by rw [upd_self] at h2; cases h2), (fun h => J.f7 (un h)), (fun h => J.f8 (un h)), (by rw [hdRCnt_same (by decide)]; exact J.rd.set (p := ⟨w1.heap.size, 1, none⟩) htr (.int .i64 v)), (J.bk.set (p := ⟨w1.heap.size, 1, none⟩) (.inr htn) (.int .i64 v)), (hF _ _ J.fr (Off.set W ⟨w1.heap.size, 1, none⟩ rfl (.int .i64 v))), (fun h => by rw [upd_self] at h; cases h), (fun _ => ⟨v, ⟨v0, v1⟩, setB (J.tb0 hLast) _⟩)⟩⟩
      case hd =>
        rename_i K0 hK0
        intro L a W hJ hall
        obtain ⟨v33, v34, v35, v36, v37, v38, v39, v40, v41, ha, J⟩ := hJ
        dsimp only at ha
        subst ha
        obtain ⟨v, ⟨v0, v1⟩, hT1⟩ : ∃ v : Int, (-1 ≤ v ∧ v ≤ 9) ∧ W.heap[w1.heap.size]? = some (.cells #[.slice ac ps.length cc, .int .i64 v, .int .i64 ft, .slice ar ur.length cr, .int .i64 gp] 37) := J.tb1 (hall 9 (by simp))
        have HT9 := Hid.intro hT1
        have HX9 := Hid.intro J.fr.2.2
        have HO9 := Hid.intro J.fr.1
        have HW9 : Hid (W.ownsRow w.heap.size 51 2 (.slice ar ur.length cr) ur.length (ur.flatMap rowVs) ∧ ∀ p ∈ ur, OwnC W w.heap.size p.1 p.2.cells) := ⟨J.fr.2.1.own, J.fr.2.1.cells⟩
        have HB9 := Hid.intro J.bk
        have HR9 : Hid (Rd W r (B + 2100)) := J.rd.mono (by have := hdRCnt_le L; omega)
        clear J hall hT1 hRd hBk hTb hF hFr hct hrt hut
        refine hK0 _ _ ?_
        clear hK0
        obtain ⟨⟨d0, d1, d2, d3, d4⟩, _⟩ := fiveZ HT9.out
        obtain ⟨⟨x0, x1, x2, x3, x4⟩, y0, y1, y2, y3, y4⟩ := fiveZ HX9.out
        have k5 := st5_bk W w.heap.size (.slice ac ps.length cc) (.int .i64 v) (.int .i64 ft) (.slice ar ur.length cr) (.int .i64 gp)
        have HZ := own_st5' HO9.out HW9.out.1 HW9.out.2 HX9.out (.slice ac ps.length cc) (.int .i64 v) (.int .i64 ft) (.slice ar ur.length cr) (.int .i64 gp)
        have HZ1 := Hid.intro HZ.1.at
        have HZ2 := Hid.intro (rows_at HZ.2.1 HZ.2.2 (fun p hp => (HS.out p hp).2))
        have HZR : Hid (Rd (st5 W w.heap.size (.slice ac ps.length cc) (.int .i64 v) (.int .i64 ft) (.slice ar ur.length cr) (.int .i64 gp)) r (B + 3000)) := (HR9.out.keep (fun k hk => k5.block k (by have := HR9.out.lt; omega) (by omega))).mono (by omega)
        have HZB : Hid (Bk r w (st5 W w.heap.size (.slice ac ps.length cc) (.int .i64 v) (.int .i64 ft) (.slice ar ur.length cr) (.int .i64 gp))) := HB9.out.via k5 (Nat.le_refl _)
        clear HT9 HX9 HO9 HW9 HB9 HR9 k5 HZ
        go_wp2
        exact bodyPost_ret (v := .agg #[.slice ac ps.length cc, .int .i64 v, .int .i64 ft, .slice ar ur.length cr, .int .i64 gp]) (by simp [results, Try.results37, go_sem, x0, x1, x2, x3, x4]) rfl (AnyPost.mk'  ⟨by simp; omega, by dsimp only; omega, by dsimp only; omega, by dsimp only; omega, by dsimp only; omega, cells_of HS.out, few_of HS.out⟩ HZ1.out HZ2.out HZR.out HZB.out)
    · skip
      go_wp2_with fail
      have hct := row_ne_block HO.out HT.out (by decide)
      have hrt := row_ne_block HW.out.own HT.out (by decide)
      have hut : ∀ p ∈ ur, p.1.ownBlock = none ∨ p.1.ownBlock ≠ some w1.heap.size := fun p hp => row_ne_block (HW.out.cells p hp) HT.out (by decide)
      have hRd := HR.out
      have hBk := HB.out
      have hTb := HT.out
      have hF := FA.stays (ps := ps) (w := w) (by omega) hct hrt hut
      have hFr : FA w (.slice ac ps.length cc) (.slice ar ur.length cr) ps ur w4 := ⟨HO.out, HW.out, HX.out⟩
      have hrn : ur.length ≤ 9 := by omega
      clear HT HX HO HW HB HR
      refine wp_region_inv2 (ftR r (B + 2000 + 1 + 1 + 1) w.heap.size w (FA w (.slice ac ps.length cc) (.slice ar ur.length cr) ps ur) w1.heap.size #[.slice ac ps.length cc, .int .i64 hd, .int .i64 ft, .slice ar ur.length cr, .int .i64 gp] ar ur.length cr (fun v44 v45 v46 v47 v48 v49 v50 v51 v52 => ⟨#[.pointer (some ⟨r, 0, none⟩), .int .i64 n, undef, undef, .pointer (some ⟨w.heap.size, 0, none⟩), .pointer (some ⟨w1.heap.size, 0, none⟩), .int .i64 (kk : Int), .pointer (some ⟨r, 0, none⟩), .agg #[.slice ac ps.length cc, .int .i64 hd, .int .i64 ft, .slice ar ur.length cr, .int .i64 gp], .pointer (some ⟨r, 0, none⟩), .int .i64 n, .int .i64 k2, .bool (decide (0 < k2)), undef, .pointer (some ⟨r, 0, none⟩), .pointer (some ⟨w1.heap.size, 3, none⟩), .slice ar ur.length cr, .int .i64 (ur.length : Int), .int .i64 (kk : Int), .pointer (some ⟨r, 0, none⟩), .int .i64 1, undef, undef, undef, undef, undef, undef, undef, undef, undef, undef, .bool false, .bool false, undef, undef, undef, undef, undef, undef, undef, undef, undef, .bool true, .bool true, v44, v45, v46, v47, v48, v49, v50, v51, v52, undef, undef, undef, undef, undef, undef, undef, undef, undef, undef, undef, undef, undef, undef, undef, undef, undef, undef, undef, undef, undef, undef, undef, undef, undef, undef, undef, undef, undef, undef, undef, undef, undef, undef, undef, undef, undef, undef, undef, undef, undef], []⟩)) (by kernel_rfl) (by kernel_rfl) ?hs ?hd ?h0
      case h0 =>
        exact ⟨_, _, _, _, _, _, _, _, _, rfl, ⟨(fun h => by cases h), (fun h => by cases h), (fun h => by cases h), (fun h _ => by cases h), (fun h => by cases h), (fun h => by cases h), (fun h _ => by cases h), (fun h => by cases h), (fun h => by cases h), hRd.drew, hBk.drew, hF _ _ hFr (Off.bk ((Bk.refl r _).drew) hlt), (fun _ => hTb), (fun h => by cases h)⟩⟩
      case hs =>
        rename_i K0 hK0
        clear hK0
        intro L a W i o hJ hcl ho hLi haft K hK
        obtain ⟨v44, v45, v46, v47, v48, v49, v50, v51, v52, ha, J⟩ := hJ
        dsimp only at ha
        subst ha
        have hi : i < 10 := by
          have := (Array.getElem?_eq_some_iff.1 ho).1
          simpa using this
        rcases (by omega : i = 0 ∨ i = 1 ∨ i = 2 ∨ i = 3 ∨ i = 4 ∨ i = 5 ∨ i = 6 ∨ i = 7 ∨ i = 8 ∨ i = 9) with rfl | rfl | rfl | rfl | rfl | rfl | rfl | rfl | rfl | rfl
        all_goals
          simp only [List.getElem?_toArray, List.getElem?_cons_zero, List.getElem?_cons_succ, Option.some.injEq] at ho
          subst ho
          clear hi
        · skip
          have hLast : L 9 = false := (hcl 9 0 (by kernel_rfl) hLi)
          have hT : L 9 = false := (hcl 9 0 (by kernel_rfl) hLi)
          go_simp
          exact hK _ _ ⟨_, _, _, _, _, _, _, _, _, rfl, ⟨(fun _ => rfl), (fun h => J.f1 (un h)), (fun h => J.f2 (un h)), (fun h h2 => J.f3 (un h) (by rwa [upd_ne rfl] at h2)), (fun h => J.f4 (un h)), (fun h => J.f5 (un h)), (fun h h2 => J.f6 (un h) (by rwa [upd_ne rfl] at h2)), (fun h => J.f7 (un h)), (fun h => J.f8 (un h)), (by rw [ftRCnt_same (by decide)]; exact J.rd), (J.bk), (J.fr), (fun h => J.tb0 (un h)), (fun h => by rw [upd_ne rfl, hLast] at h; cases h)⟩⟩
        · skip
          have hLast : L 9 = false := (hcl 9 1 (by kernel_rfl) hLi)
          have hT : L 9 = false := (hcl 9 1 (by kernel_rfl) hLi)
          obtain rfl := J.f0 (haft ⟨0, .data⟩ (by simp) rfl)
          have hc : W.cell? ⟨w1.heap.size, 3, none⟩ = some (.slice ar ur.length cr) := (cellB (J.tb0 hLast)).trans rfl
          go_simp
          exact hK _ _ ⟨_, _, _, _, _, _, _, _, _, rfl, ⟨(fun h => J.f0 (un h)), (fun _ => rfl), (fun h => J.f2 (un h)), (fun h h2 => J.f3 (un h) (by rwa [upd_ne rfl] at h2)), (fun h => J.f4 (un h)), (fun h => J.f5 (un h)), (fun h h2 => J.f6 (un h) (by rwa [upd_ne rfl] at h2)), (fun h => J.f7 (un h)), (fun h => J.f8 (un h)), (by rw [ftRCnt_same (by decide)]; exact J.rd), (J.bk), (J.fr), (fun h => J.tb0 (un h)), (fun h => by rw [upd_ne rfl, hLast] at h; cases h)⟩⟩
        · skip
          have hLast : L 9 = false := (hcl 9 2 (by kernel_rfl) hLi)
          have hT : L 9 = false := (hcl 9 2 (by kernel_rfl) hLi)
          obtain rfl := J.f1 (haft ⟨1, .data⟩ (by simp) rfl)
          go_simp
          exact hK _ _ ⟨_, _, _, _, _, _, _, _, _, rfl, ⟨(fun h => J.f0 (un h)), (fun h => J.f1 (un h)), (fun _ => rfl), (fun h h2 => J.f3 (un h) (by rwa [upd_ne rfl] at h2)), (fun h => J.f4 (un h)), (fun h => J.f5 (un h)), (fun h h2 => J.f6 (un h) (by rwa [upd_ne rfl] at h2)), (fun h => J.f7 (un h)), (fun h => J.f8 (un h)), (by rw [ftRCnt_same (by decide)]; exact J.rd), (J.bk), (J.fr), (fun h => J.tb0 (un h)), (fun h => by rw [upd_ne rfl, hLast] at h; cases h)⟩⟩
        · skip
          have hLast : L 9 = false := (hcl 9 3 (by kernel_rfl) hLi)
          have hT : L 9 = false := (hcl 9 3 (by kernel_rfl) hLi)
          have hsz := J.bk.size
          obtain rfl := J.f2 (haft ⟨2, .data⟩ (by simp) rfl)
          go_simp
          exact hK _ _ ⟨_, _, _, _, _, _, _, _, _, rfl, ⟨(fun h => J.f0 (un h)), (fun h => J.f1 (un h)), (fun h => J.f2 (un h)), (fun _ _ => ⟨W.heap.size, _, rfl, Hp.new hsz _, rfl⟩), (fun h => J.f4 (un h)), (fun h => J.f5 (un h)), (fun h h2 => (J.f6 (un h) (by rwa [upd_ne rfl] at h2)).bk hlt (bk_alloc r W _)), (fun h => J.f7 (un h)), (fun h => J.f8 (un h)), (by rw [ftRCnt_same (by decide)]; exact J.rd.alloc _), (J.bk.alloc _), (hF _ _ J.fr (Off.bk (bk_alloc r W _) hlt)), (fun h => (Below.heap_alloc _ _ _ (Array.getElem?_eq_some_iff.1 (J.tb0 (un h))).1).trans (J.tb0 (un h))), (fun h => by rw [upd_ne rfl, hLast] at h; cases h)⟩⟩
        · skip
          have hLast : L 9 = false := (hcl 9 4 (by kernel_rfl) hLi)
          have hT : L 9 = false := (hcl 9 4 (by kernel_rfl) hLi)
          go_simp
          exact hK _ _ ⟨_, _, _, _, _, _, _, _, _, rfl, ⟨(fun h => J.f0 (un h)), (fun h => J.f1 (un h)), (fun h => J.f2 (un h)), (fun h h2 => J.f3 (un h) (by rwa [upd_ne rfl] at h2)), (fun _ => rfl), (fun h => J.f5 (un h)), (fun h h2 => J.f6 (un h) (by rwa [upd_ne rfl] at h2)), (fun h => J.f7 (un h)), (fun h => J.f8 (un h)), (by rw [ftRCnt_same (by decide)]; exact J.rd), (J.bk), (J.fr), (fun h => J.tb0 (un h)), (fun h => by rw [upd_ne rfl, hLast] at h; cases h)⟩⟩
        · skip
          have hLast : L 9 = false := (hcl 9 5 (by kernel_rfl) hLi)
          have hT : L 9 = false := (hcl 9 5 (by kernel_rfl) hLi)
          obtain rfl := J.f4 (haft ⟨4, .data⟩ (by simp) rfl)
          go_simp
          go_wp2_with (go_at_call 38; refine (pick_any r _ _ _ J.rd (by have := ftRCnt_le L; omega)).mono ?_; rintro e W2 ⟨k, rfl, hk, hR, hb⟩)
          have hk2 := hk (by omega)
          exact ⟨_, _, _, _, _, _, _, _, _, rfl, ⟨(fun h => J.f0 (un h)), (fun h => J.f1 (un h)), (fun h => J.f2 (un h)), (fun h h2 => (J.f3 (un h) (by rwa [upd_ne rfl] at h2)).bk hlt hb), (fun h => J.f4 (un h)), (fun _ => ⟨k, rfl, by omega, by omega⟩), (fun h h2 => (J.f6 (un h) (by rwa [upd_ne rfl] at h2)).bk hlt hb), (fun h => J.f7 (un h)), (fun h => J.f8 (un h)), (by rw [ftRCnt_5 hLi, ← Nat.add_assoc]; exact hR), (J.bk.trans hb), (hF _ _ J.fr (Off.bk hb hlt)), (fun h => (hb.block w1.heap.size (Array.getElem?_eq_some_iff.1 (J.tb0 (un h))).1 htb).trans (J.tb0 (un h))), (fun h => by rw [upd_ne rfl, hLast] at h; cases h)⟩⟩
        · skip
          have hLast : L 9 = false := (hcl 9 6 (by kernel_rfl) hLi)
          have hT : L 9 = false := (hcl 9 6 (by kernel_rfl) hLi)
          obtain ⟨g, arr, rfl, hg, rfl⟩ := J.f3 (haft ⟨3, .data⟩ (by simp) rfl) hT
          obtain ⟨k, rfl, k0, k1⟩ := J.f5 (haft ⟨5, .data⟩ (by simp) rfl)
          have k2 : k < 3 := by omega
          obtain ⟨v, hv⟩ := at3n ur.length hrn k k0 k2
          go_simp
          exact hK _ _ ⟨_, _, _, _, _, _, _, _, _, rfl, ⟨(fun h => J.f0 (un h)), (fun h => J.f1 (un h)), (fun h => J.f2 (un h)), (fun h h2 => J.f3 (un h) (by rwa [upd_ne rfl] at h2)), (fun h => J.f4 (un h)), (fun h => J.f5 (un h)), (fun _ _ => ⟨g, _, _, rfl, hg, v, hv⟩), (fun h => J.f7 (un h)), (fun h => J.f8 (un h)), (by rw [ftRCnt_same (by decide)]; exact J.rd), (J.bk), (J.fr), (fun h => J.tb0 (un h)), (fun h => by rw [upd_ne rfl, hLast] at h; cases h)⟩⟩
        · skip
          have hLast : L 9 = false := (hcl 9 7 (by kernel_rfl) hLi)
          have hT : L 9 = false := (hcl 9 7 (by kernel_rfl) hLi)
          obtain ⟨g, k, arr, rfl, hg, v, hv, v0, v1⟩ := J.f6 (haft ⟨6, .data⟩ (by simp) rfl) hT
          have hc : W.cell? ⟨g, k, none⟩ = some (.int .i64 v) := (cellB hg.2).trans hv
          go_simp
          exact hK _ _ ⟨_, _, _, _, _, _, _, _, _, rfl, ⟨(fun h => J.f0 (un h)), (fun h => J.f1 (un h)), (fun h => J.f2 (un h)), (fun h h2 => J.f3 (un h) (by rwa [upd_ne rfl] at h2)), (fun h => J.f4 (un h)), (fun h => J.f5 (un h)), (fun h h2 => J.f6 (un h) (by rwa [upd_ne rfl] at h2)), (fun _ => ⟨v, rfl, v0, v1⟩), (fun h => J.f8 (un h)), (by rw [ftRCnt_same (by decide)]; exact J.rd), (J.bk), (J.fr), (fun h => J.tb0 (un h)), (fun h => by rw [upd_ne rfl, hLast] at h; cases h)⟩⟩
        · skip
          have hLast : L 9 = false := (hcl 9 8 (by kernel_rfl) hLi)
          have hT : L 9 = false := (hcl 9 8 (by kernel_rfl) hLi)
          go_simp
          exact hK _ _ ⟨_, _, _, _, _, _, _, _, _, rfl, ⟨(fun h => J.f0 (un h)), (fun h => J.f1 (un h)), (fun h => J.f2 (un h)), (fun h h2 => J.f3 (un h) (by rwa [upd_ne rfl] at h2)), (fun h => J.f4 (un h)), (fun h => J.f5 (un h)), (fun h h2 => J.f6 (un h) (by rwa [upd_ne rfl] at h2)), (fun h => J.f7 (un h)), (fun _ => rfl), (by rw [ftRCnt_same (by decide)]; exact J.rd), (J.bk), (J.fr), (fun h => J.tb0 (un h)), (fun h => by rw [upd_ne rfl, hLast] at h; cases h)⟩⟩
        · skip
          have hLast : L 9 = false := hLi
          have hT : L 9 = false := hLi
          obtain ⟨v, rfl, v0, v1⟩ := J.f7 (haft ⟨7, .data⟩ (by simp) rfl)
          obtain rfl := J.f8 (haft ⟨8, .data⟩ (by simp) rfl)
          have hc := (cellB (p := 2) (J.tb0 hLast)).trans rfl
          have hf : W.frozen? ⟨w1.heap.size, 2, none⟩ = false := freeB (J.tb0 hLast)
          go_simp
          exact hK _ _ ⟨_, _, _, _, _, _, _, _, _, rfl, ⟨(fun h => J.f0 (un h)), (fun h => J.f1 (un h)), (fun h => J.f2 (un h)), (fun _ h2 => by rw [upd_self] at h2; cases h2), (fun h => J.f4 (un h)), (fun h => J.f5 (un h)), (fun _ h2 => by rw [upd_self] at h2; cases h2), (fun h => J.f7 (un h)), (fun h => J.f8 (un h)), (by rw [ftRCnt_same (by decide)]; exact J.rd.set (p := ⟨w1.heap.size, 2, none⟩) htr (.int .i64 v)), (J.bk.set (p := ⟨w1.heap.size, 2, none⟩) (.inr htn) (.int .i64 v)), (hF _ _ J.fr (Off.set W ⟨w1.heap.size, 2, none⟩ rfl (.int .i64 v))), (fun h => by rw [upd_self] at h; cases h), (fun _ => ⟨v, ⟨v0, v1⟩, setB (J.tb0 hLast) _⟩)⟩⟩
      case hd =>
        rename_i K0 hK0
        intro L a W hJ hall
        obtain ⟨v44, v45, v46, v47, v48, v49, v50, v51, v52, ha, J⟩ := hJ
        dsimp only at ha
        subst ha
        obtain ⟨v, ⟨v0, v1⟩, hT1⟩ : ∃ v : Int, (-1 ≤ v ∧ v ≤ 9) ∧ W.heap[w1.heap.size]? = some (.cells #[.slice ac ps.length cc, .int .i64 hd, .int .i64 v, .slice ar ur.length cr, .int .i64 gp] 37) := J.tb1 (hall 9 (by simp))
        have HT9 := Hid.intro hT1
        have HX9 := Hid.intro J.fr.2.2
        have HO9 := Hid.intro J.fr.1
        have HW9 : Hid (W.ownsRow w.heap.size 51 2 (.slice ar ur.length cr) ur.length (ur.flatMap rowVs) ∧ ∀ p ∈ ur, OwnC W w.heap.size p.1 p.2.cells) := ⟨J.fr.2.1.own, J.fr.2.1.cells⟩
        have HB9 := Hid.intro J.bk
        have HR9 : Hid (Rd W r (B + 2100)) := J.rd.mono (by have := ftRCnt_le L; omega)
        clear J hall hT1 hRd hBk hTb hF hFr hct hrt hut
        refine hK0 _ _ ?_
        clear hK0
        obtain ⟨⟨d0, d1, d2, d3, d4⟩, _⟩ := fiveZ HT9.out
        obtain ⟨⟨x0, x1, x2, x3, x4⟩, y0, y1, y2, y3, y4⟩ := fiveZ HX9.out
        have k5 := st5_bk W w.heap.size (.slice ac ps.length cc) (.int .i64 hd) (.int .i64 v) (.slice ar ur.length cr) (.int .i64 gp)
        have HZ := own_st5' HO9.out HW9.out.1 HW9.out.2 HX9.out (.slice ac ps.length cc) (.int .i64 hd) (.int .i64 v) (.slice ar ur.length cr) (.int .i64 gp)
        have HZ1 := Hid.intro HZ.1.at
        have HZ2 := Hid.intro (rows_at HZ.2.1 HZ.2.2 (fun p hp => (HS.out p hp).2))
        have HZR : Hid (Rd (st5 W w.heap.size (.slice ac ps.length cc) (.int .i64 hd) (.int .i64 v) (.slice ar ur.length cr) (.int .i64 gp)) r (B + 3000)) := (HR9.out.keep (fun k hk => k5.block k (by have := HR9.out.lt; omega) (by omega))).mono (by omega)
        have HZB : Hid (Bk r w (st5 W w.heap.size (.slice ac ps.length cc) (.int .i64 hd) (.int .i64 v) (.slice ar ur.length cr) (.int .i64 gp))) := HB9.out.via k5 (Nat.le_refl _)
        clear HT9 HX9 HO9 HW9 HB9 HR9 k5 HZ
        go_wp2
        exact bodyPost_ret (v := .agg #[.slice ac ps.length cc, .int .i64 hd, .int .i64 v, .slice ar ur.length cr, .int .i64 gp]) (by simp [results, Try.results37, go_sem, x0, x1, x2, x3, x4]) rfl (AnyPost.mk'  ⟨by simp; omega, by dsimp only; omega, by dsimp only; omega, by dsimp only; omega, by dsimp only; omega, cells_of HS.out, few_of HS.out⟩ HZ1.out HZ2.out HZR.out HZB.out)
    · skip
      go_wp2_with fail
      refine (pick_any _ _ _ _ (HR.out.alloc _) (by omega)).mono ?_
      rintro e w5 ⟨k5, rfl, hk5, hR5, hb5⟩
      obtain ⟨k51, k52⟩ := hk5 (by omega)
      obtain ⟨v, hv, v0, v1⟩ : ∃ v : Int, (#[.int .i64 (-1), .int .i64 4] : Array Value)[k5.toNat]? = some (.int .i64 v) ∧ -1 ≤ v ∧ v ≤ 4 := by
        rcases (by omega : k5 = 0 ∨ k5 = 1) with rfl | rfl
        · exact ⟨-1, rfl, by omega, by omega⟩
        · exact ⟨4, rfl, by omega, by omega⟩
      have hcv : w5.cell? ⟨w4.heap.size, k5.toNat, none⟩ = some (.int .i64 v) := (cellB ((hb5.block w4.heap.size (by simp) (by have := HR.out.lt; omega)).trans (newestB _ _))).trans hv
      have hbb := (bk_alloc r w4 (.cells #[.int .i64 (-1), .int .i64 4] 3)).trans hb5
      have hT5 := (hbb.block w1.heap.size (Array.getElem?_eq_some_iff.1 HT.out).1 htb).trans HT.out
      have hX5 := (hbb.block w.heap.size (Array.getElem?_eq_some_iff.1 HX.out).1 (by omega)).trans HX.out
      have hO5 : OwnCol w5 w.heap.size _ ps := row_bk HO.out hbb hlt
      have hW5 : OwnR w5 w.heap.size _ ur := HW.out.bk hbb hlt
      have c4 : w5.cell? ⟨w1.heap.size, 4, none⟩ = some (.int .i64 gp) := cellB hT5
      have f4 : w5.frozen? ⟨w1.heap.size, 4, none⟩ = false := freeB hT5
      have HT9 : Hid ((w5.setCell ⟨w1.heap.size, 4, none⟩ (.int .i64 v)).heap[w1.heap.size]? = some (.cells #[.slice ac ps.length cc, .int .i64 hd, .int .i64 ft, .slice ar ur.length cr, .int .i64 v] 37)) := setB hT5 _
      have HX9 : Hid ((w5.setCell ⟨w1.heap.size, 4, none⟩ (.int .i64 v)).heap[w.heap.size]? = some (.cells #[.slice none 0 0, .int .i64 0, .int .i64 0, .slice none 0 0, .int .i64 0] 37)) := (Below.heap_setCell _ _ _ _ (by dsimp only; omega)).trans hX5
      have HO9 : Hid (OwnCol (w5.setCell ⟨w1.heap.size, 4, none⟩ (.int .i64 v)) w.heap.size (.slice ac ps.length cc) ps) := row_set hO5 hT5 (by decide) _
      have hW6 := hW5.set (p := 4) hT5 (.int .i64 v)
      have HW9 : Hid ((w5.setCell ⟨w1.heap.size, 4, none⟩ (.int .i64 v)).ownsRow w.heap.size 51 2 (.slice ar ur.length cr) ur.length (ur.flatMap rowVs) ∧ ∀ p ∈ ur, OwnC (w5.setCell ⟨w1.heap.size, 4, none⟩ (.int .i64 v)) w.heap.size p.1 p.2.cells) := ⟨hW6.own, hW6.cells⟩
      have HB9 := Hid.intro ((HB.out.trans hbb).set (p := ⟨w1.heap.size, 4, none⟩) (.inr htn) (.int .i64 v))
      have HR9 := Hid.intro (hR5.set (p := ⟨w1.heap.size, 4, none⟩) htr (.int .i64 v))
      clear hT5 hX5 hO5 hW5 hW6 hbb hb5 hR5 hk5 HT HX HO HW HB HR hv
      go_upto_region 18 with (fail)
      clear c4 f4 hcv
      generalize w5.setCell ⟨w1.heap.size, 4, none⟩ (.int .i64 v) = w9 at HT9 HX9 HO9 HW9 HB9 HR9 ⊢
      obtain ⟨⟨d0, d1, d2, d3, d4⟩, _⟩ := fiveZ HT9.out
      obtain ⟨⟨x0, x1, x2, x3, x4⟩, y0, y1, y2, y3, y4⟩ := fiveZ HX9.out
      have k5 := st5_bk w9 w.heap.size (.slice ac ps.length cc) (.int .i64 hd) (.int .i64 ft) (.slice ar ur.length cr) (.int .i64 v)
      have HZ := own_st5' HO9.out HW9.out.1 HW9.out.2 HX9.out (.slice ac ps.length cc) (.int .i64 hd) (.int .i64 ft) (.slice ar ur.length cr) (.int .i64 v)
      have HZ1 := Hid.intro HZ.1.at
      have HZ2 := Hid.intro (rows_at HZ.2.1 HZ.2.2 (fun p hp => (HS.out p hp).2))
      have HZR : Hid (Rd (st5 w9 w.heap.size (.slice ac ps.length cc) (.int .i64 hd) (.int .i64 ft) (.slice ar ur.length cr) (.int .i64 v)) r (B + 3000)) := (HR9.out.keep (fun k hk => k5.block k (by have := HR9.out.lt; omega) (by omega))).mono (by omega)
      have HZB : Hid (Bk r w (st5 w9 w.heap.size (.slice ac ps.length cc) (.int .i64 hd) (.int .i64 ft) (.slice ar ur.length cr) (.int .i64 v))) := HB9.out.via k5 (Nat.le_refl _)
      clear HT9 HX9 HO9 HW9 HB9 HR9 k5 HZ
      go_wp2
      exact bodyPost_ret (v := .agg #[.slice ac ps.length cc, .int .i64 hd, .int .i64 ft, .slice ar ur.length cr, .int .i64 v]) (by simp [results, Try.results37, go_sem, x0, x1, x2, x3, x4]) rfl (AnyPost.mk'  ⟨by simp; omega, by dsimp only; omega, by dsimp only; omega, by dsimp only; omega, by dsimp only; omega, cells_of HS.out, few_of HS.out⟩ HZ1.out HZ2.out HZR.out HZB.out)
    · skip
      go_wp2_with fail
      have hct := row_ne_block HO.out HT.out (by decide)
      have hrt := row_ne_block HW.out.own HT.out (by decide)
      have hut : ∀ p ∈ ur, p.1.ownBlock = none ∨ p.1.ownBlock ≠ some w1.heap.size := fun p hp => row_ne_block (HW.out.cells p hp) HT.out (by decide)
      have hRd := HR.out
      have hBk := HB.out
      have hTb := HT.out
      obtain ⟨i0, hi0, hz0, hz1', hz2⟩ := info_parts infoCol
      have hOwn := HO.out
      have hUn : ∀ i, (.slice ac ps.length cc : Value).ownBlock = some i → w.heap.size ≤ i := fun i hi => (row_lt hOwn hi).1
      have hUr : ∀ i, (.slice ac ps.length cc : Value).ownBlock = some i → r < i := fun i hi => by have := hUn i hi; omega
      have hF := FB.stays (w := w) (vc := .slice ac ps.length cc) (by omega) hrt hut (row_ne HW.out.own HO.out (by decide)) (fun p hp => row_ne (HW.out.cells p hp) HO.out (by decide)) (ne_of_own (row_ne_block HO.out HX.out (by decide)))
      have hFr : FB w (.slice ar ur.length cr) ur w4 := ⟨HW.out, HX.out⟩
      clear HT HX HO HW HB HR
      refine wp_region_inv2 (acR r (B + 2000 + 1 + 1 + 1) w.heap.size w (FB w (.slice ar ur.length cr) ur) w.heap.size (.slice ac ps.length cc) ps.length (ps.flatMap colVs) w1.heap.size #[.slice ac ps.length cc, .int .i64 hd, .int .i64 ft, .slice ar ur.length cr, .int .i64 gp] (fun v63 v64 v65 v66 v67 v68 v69 v70 v71 v72 v73 v74 v75 => ⟨#[.pointer (some ⟨r, 0, none⟩), .int .i64 n, undef, undef, .pointer (some ⟨w.heap.size, 0, none⟩), .pointer (some ⟨w1.heap.size, 0, none⟩), .int .i64 (kk : Int), .pointer (some ⟨r, 0, none⟩), .agg #[.slice ac ps.length cc, .int .i64 hd, .int .i64 ft, .slice ar ur.length cr, .int .i64 gp], .pointer (some ⟨r, 0, none⟩), .int .i64 n, .int .i64 k2, .bool (decide (0 < k2)), undef, .pointer (some ⟨r, 0, none⟩), .pointer (some ⟨w1.heap.size, 3, none⟩), .slice ar ur.length cr, .int .i64 (ur.length : Int), .int .i64 (kk : Int), .pointer (some ⟨r, 0, none⟩), .int .i64 3, undef, undef, undef, undef, undef, undef, undef, undef, undef, undef, .bool false, .bool false, undef, undef, undef, undef, undef, undef, undef, undef, undef, .bool false, .bool false, undef, undef, undef, undef, undef, undef, undef, undef, undef, .bool false, .bool false, undef, undef, undef, undef, undef, undef, .bool true, .bool true, v63, v64, v65, v66, v67, v68, v69, v70, v71, v72, v73, v74, v75, undef, undef, undef, undef, undef, undef, undef, undef, undef, undef, undef, undef, undef, undef, undef, undef, undef, undef], []⟩)) (by kernel_rfl) (by kernel_rfl) ?hs ?hd ?h0
      case h0 =>
        exact ⟨_, _, _, _, _, _, _, _, _, _, _, _, _, rfl, ⟨(fun h => by cases h), (fun h => by cases h), (fun h => by cases h), (fun h => by cases h), (fun h _ => by cases h), (fun h => by cases h), (fun h => by cases h), (fun h _ => by cases h), (fun h => by cases h), (fun h => by cases h), (fun h _ => by cases h), (fun h => by cases h), hRd.drew, hBk.drew, hF _ _ hFr (Off.bk ((Bk.refl r _).drew) hlt), (fun _ => hOwn), (fun h => by cases h), (fun _ => hTb), (fun h => by cases h)⟩⟩
      case hs =>
        rename_i K0 hK0
        clear hK0
        intro L a W i o hJ hcl ho hLi haft K hK
        obtain ⟨v63, v64, v65, v66, v67, v68, v69, v70, v71, v72, v73, v74, v75, ha, J⟩ := hJ
        dsimp only at ha
        subst ha
        have hi : i < 14 := by
          have := (Array.getElem?_eq_some_iff.1 ho).1
          simpa using this
        rcases (by omega : i = 0 ∨ i = 1 ∨ i = 2 ∨ i = 3 ∨ i = 4 ∨ i = 5 ∨ i = 6 ∨ i = 7 ∨ i = 8 ∨ i = 9 ∨ i = 10 ∨ i = 11 ∨ i = 12 ∨ i = 13) with rfl | rfl | rfl | rfl | rfl | rfl | rfl | rfl | rfl | rfl | rfl | rfl | rfl | rfl
        all_goals
          simp only [List.getElem?_toArray, List.getElem?_cons_zero, List.getElem?_cons_succ, Option.some.injEq] at ho
          subst ho
          clear hi
        · skip
          have hLast : L 13 = false := (hcl 13 0 (by kernel_rfl) hLi)
          have hT : L 11 = false := (hcl 11 1 (by kernel_rfl) (hcl 1 0 (by kernel_rfl) hLi))
          go_simp
          exact hK _ _ ⟨_, _, _, _, _, _, _, _, _, _, _, _, _, rfl, ⟨(fun _ => rfl), (fun h => J.f1 (un h)), (fun h => J.f2 (un h)), (fun h => J.f3 (un h)), (fun h h2 => J.f4 (un h) (by rwa [upd_ne rfl] at h2)), (fun h => J.f5 (un h)), (fun h => J.f6 (un h)), (fun h h2 => J.f7 (un h) (by rwa [upd_ne rfl] at h2)), (fun h => J.f8 (un h)), (fun h => J.f9 (un h)), (fun h h2 => J.f10 (un h) (by rwa [upd_ne rfl] at h2)), (fun h => J.f12 (un h)), (by rw [acRCnt_same (by decide)]; exact J.rd), (J.bk), (J.fr), (fun h => J.own (un h)), (fun h => by rw [upd_ne rfl, hT] at h; cases h), (fun h => J.tb0 (un h)), (fun h => by rw [upd_ne rfl, hLast] at h; cases h)⟩⟩
        · skip
          have hLast : L 13 = false := (hcl 13 1 (by kernel_rfl) hLi)
          have hT : L 11 = false := (hcl 11 1 (by kernel_rfl) hLi)
          obtain rfl := J.f0 (haft ⟨0, .data⟩ (by simp) rfl)
          have hc : W.cell? ⟨w1.heap.size, 0, none⟩ = some (.slice ac ps.length cc) := (cellB (J.tb0 hLast)).trans rfl
          go_simp
          exact hK _ _ ⟨_, _, _, _, _, _, _, _, _, _, _, _, _, rfl, ⟨(fun h => J.f0 (un h)), (fun _ => rfl), (fun h => J.f2 (un h)), (fun h => J.f3 (un h)), (fun h h2 => J.f4 (un h) (by rwa [upd_ne rfl] at h2)), (fun h => J.f5 (un h)), (fun h => J.f6 (un h)), (fun h h2 => J.f7 (un h) (by rwa [upd_ne rfl] at h2)), (fun h => J.f8 (un h)), (fun h => J.f9 (un h)), (fun h h2 => J.f10 (un h) (by rwa [upd_ne rfl] at h2)), (fun h => J.f12 (un h)), (by rw [acRCnt_same (by decide)]; exact J.rd), (J.bk), (J.fr), (fun h => J.own (un h)), (fun h => by rw [upd_ne rfl, hT] at h; cases h), (fun h => J.tb0 (un h)), (fun h => by rw [upd_ne rfl, hLast] at h; cases h)⟩⟩
        · skip
          have hLast : L 13 = false := (hcl 13 2 (by kernel_rfl) hLi)
          have hT : L 11 = false := (hcl 11 10 (by kernel_rfl) (hcl 10 9 (by kernel_rfl) (hcl 9 3 (by kernel_rfl) (hcl 3 2 (by kernel_rfl) hLi))))
          go_simp
          exact hK _ _ ⟨_, _, _, _, _, _, _, _, _, _, _, _, _, rfl, ⟨(fun h => J.f0 (un h)), (fun h => J.f1 (un h)), (fun _ => rfl), (fun h => J.f3 (un h)), (fun h h2 => J.f4 (un h) (by rwa [upd_ne rfl] at h2)), (fun h => J.f5 (un h)), (fun h => J.f6 (un h)), (fun h h2 => J.f7 (un h) (by rwa [upd_ne rfl] at h2)), (fun h => J.f8 (un h)), (fun h => J.f9 (un h)), (fun h h2 => J.f10 (un h) (by rwa [upd_ne rfl] at h2)), (fun h => J.f12 (un h)), (by rw [acRCnt_same (by decide)]; exact J.rd), (J.bk), (J.fr), (fun h => J.own (un h)), (fun h => by rw [upd_ne rfl, hT] at h; cases h), (fun h => J.tb0 (un h)), (fun h => by rw [upd_ne rfl, hLast] at h; cases h)⟩⟩
        · skip
          have hLast : L 13 = false := (hcl 13 3 (by kernel_rfl) hLi)
          have hT : L 11 = false := (hcl 11 10 (by kernel_rfl) (hcl 10 9 (by kernel_rfl) (hcl 9 3 (by kernel_rfl) hLi)))
          obtain rfl := J.f2 (haft ⟨2, .data⟩ (by simp) rfl)
          go_simp
          go_wp2_with (go_at_call 38; refine (pick_any r _ _ _ J.rd (by have := acRCnt_le L; omega)).mono ?_; rintro e W2 ⟨k, rfl, hk, hR, hb⟩)
          have hk2 := hk (by omega)
          exact ⟨_, _, _, _, _, _, _, _, _, _, _, _, _, rfl, ⟨(fun h => J.f0 (un h)), (fun h => J.f1 (un h)), (fun h => J.f2 (un h)), (fun _ => ⟨k, rfl, by omega, by omega⟩), (fun h h2 => (J.f4 (un h) (by rwa [upd_ne rfl] at h2)).bk hlt hb), (fun h => J.f5 (un h)), (fun h => J.f6 (un h)), (fun h h2 => (J.f7 (un h) (by rwa [upd_ne rfl] at h2)).bk hlt hb), (fun h => J.f8 (un h)), (fun h => J.f9 (un h)), (fun h h2 => (J.f10 (un h) (by rwa [upd_ne rfl] at h2)).bk hlt hb), (fun h => J.f12 (un h)), (by rw [acRCnt_3 hLi, ← Nat.add_assoc]; exact hR), (J.bk.trans hb), (hF _ _ J.fr (Off.bk hb hlt)), (fun h => row_bk (J.own (un h)) hb hlt), (fun h => by rw [upd_ne rfl, hT] at h; cases h), (fun h => (hb.block w1.heap.size (Array.getElem?_eq_some_iff.1 (J.tb0 (un h))).1 htb).trans (J.tb0 (un h))), (fun h => by rw [upd_ne rfl, hLast] at h; cases h)⟩⟩
        · skip
          have hLast : L 13 = false := (hcl 13 4 (by kernel_rfl) hLi)
          have hT : L 11 = false := (hcl 11 10 (by kernel_rfl) (hcl 10 9 (by kernel_rfl) (hcl 9 8 (by kernel_rfl) (hcl 8 7 (by kernel_rfl) (hcl 7 4 (by kernel_rfl) hLi)))))
          have hsz := J.bk.size
          go_simp
          exact hK _ _ ⟨_, _, _, _, _, _, _, _, _, _, _, _, _, rfl, ⟨(fun h => J.f0 (un h)), (fun h => J.f1 (un h)), (fun h => J.f2 (un h)), (fun h => J.f3 (un h)), (fun _ _ => ⟨W.heap.size, _, rfl, Hp.new hsz _, rfl⟩), (fun h => J.f5 (un h)), (fun h => J.f6 (un h)), (fun h h2 => (J.f7 (un h) (by rwa [upd_ne rfl] at h2)).bk hlt (bk_alloc r W _)), (fun h => J.f8 (un h)), (fun h => J.f9 (un h)), (fun h h2 => (J.f10 (un h) (by rwa [upd_ne rfl] at h2)).bk hlt (bk_alloc r W _)), (fun h => J.f12 (un h)), (by rw [acRCnt_same (by decide)]; exact J.rd.alloc _), (J.bk.alloc _), (hF _ _ J.fr (Off.bk (bk_alloc r W _) hlt)), (fun h => row_bk (J.own (un h)) (bk_alloc r W _) hlt), (fun h => by rw [upd_ne rfl, hT] at h; cases h), (fun h => (Below.heap_alloc _ _ _ (Array.getElem?_eq_some_iff.1 (J.tb0 (un h))).1).trans (J.tb0 (un h))), (fun h => by rw [upd_ne rfl, hLast] at h; cases h)⟩⟩
        · skip
          have hLast : L 13 = false := (hcl 13 5 (by kernel_rfl) hLi)
          have hT : L 11 = false := (hcl 11 10 (by kernel_rfl) (hcl 10 9 (by kernel_rfl) (hcl 9 8 (by kernel_rfl) (hcl 8 7 (by kernel_rfl) (hcl 7 6 (by kernel_rfl) (hcl 6 5 (by kernel_rfl) hLi))))))
          go_simp
          exact hK _ _ ⟨_, _, _, _, _, _, _, _, _, _, _, _, _, rfl, ⟨(fun h => J.f0 (un h)), (fun h => J.f1 (un h)), (fun h => J.f2 (un h)), (fun h => J.f3 (un h)), (fun h h2 => J.f4 (un h) (by rwa [upd_ne rfl] at h2)), (fun _ => rfl), (fun h => J.f6 (un h)), (fun h h2 => J.f7 (un h) (by rwa [upd_ne rfl] at h2)), (fun h => J.f8 (un h)), (fun h => J.f9 (un h)), (fun h h2 => J.f10 (un h) (by rwa [upd_ne rfl] at h2)), (fun h => J.f12 (un h)), (by rw [acRCnt_same (by decide)]; exact J.rd), (J.bk), (J.fr), (fun h => J.own (un h)), (fun h => by rw [upd_ne rfl, hT] at h; cases h), (fun h => J.tb0 (un h)), (fun h => by rw [upd_ne rfl, hLast] at h; cases h)⟩⟩
        · skip
          have hLast : L 13 = false := (hcl 13 6 (by kernel_rfl) hLi)
          have hT : L 11 = false := (hcl 11 10 (by kernel_rfl) (hcl 10 9 (by kernel_rfl) (hcl 9 8 (by kernel_rfl) (hcl 8 7 (by kernel_rfl) (hcl 7 6 (by kernel_rfl) hLi)))))
          obtain rfl := J.f5 (haft ⟨5, .data⟩ (by simp) rfl)
          go_simp
          go_wp2_with (go_at_call 38; refine (pick_any r _ _ _ J.rd (by have := acRCnt_le L; omega)).mono ?_; rintro e W2 ⟨k, rfl, hk, hR, hb⟩)
          have hk2 := hk (by omega)
          exact ⟨_, _, _, _, _, _, _, _, _, _, _, _, _, rfl, ⟨(fun h => J.f0 (un h)), (fun h => J.f1 (un h)), (fun h => J.f2 (un h)), (fun h => J.f3 (un h)), (fun h h2 => (J.f4 (un h) (by rwa [upd_ne rfl] at h2)).bk hlt hb), (fun h => J.f5 (un h)), (fun _ => ⟨k, rfl, by omega, by omega⟩), (fun h h2 => (J.f7 (un h) (by rwa [upd_ne rfl] at h2)).bk hlt hb), (fun h => J.f8 (un h)), (fun h => J.f9 (un h)), (fun h h2 => (J.f10 (un h) (by rwa [upd_ne rfl] at h2)).bk hlt hb), (fun h => J.f12 (un h)), (by rw [acRCnt_6 hLi, ← Nat.add_assoc]; exact hR), (J.bk.trans hb), (hF _ _ J.fr (Off.bk hb hlt)), (fun h => row_bk (J.own (un h)) hb hlt), (fun h => by rw [upd_ne rfl, hT] at h; cases h), (fun h => (hb.block w1.heap.size (Array.getElem?_eq_some_iff.1 (J.tb0 (un h))).1 htb).trans (J.tb0 (un h))), (fun h => by rw [upd_ne rfl, hLast] at h; cases h)⟩⟩
        · skip
          have hLast : L 13 = false := (hcl 13 7 (by kernel_rfl) hLi)
          have hT : L 11 = false := (hcl 11 10 (by kernel_rfl) (hcl 10 9 (by kernel_rfl) (hcl 9 8 (by kernel_rfl) (hcl 8 7 (by kernel_rfl) hLi))))
          obtain ⟨g, arr, rfl, hg, rfl⟩ := J.f4 (haft ⟨4, .data⟩ (by simp) rfl) hT
          obtain ⟨k, rfl, k0, k1⟩ := J.f6 (haft ⟨6, .data⟩ (by simp) rfl)
          have k2 : k < 4 := by omega
          obtain ⟨v, hv⟩ := lit4 (-1) 0 61 101 k k0 k2
          go_simp
          exact hK _ _ ⟨_, _, _, _, _, _, _, _, _, _, _, _, _, rfl, ⟨(fun h => J.f0 (un h)), (fun h => J.f1 (un h)), (fun h => J.f2 (un h)), (fun h => J.f3 (un h)), (fun h h2 => J.f4 (un h) (by rwa [upd_ne rfl] at h2)), (fun h => J.f5 (un h)), (fun h => J.f6 (un h)), (fun _ _ => ⟨g, _, _, rfl, hg, v, hv⟩), (fun h => J.f8 (un h)), (fun h => J.f9 (un h)), (fun h h2 => J.f10 (un h) (by rwa [upd_ne rfl] at h2)), (fun h => J.f12 (un h)), (by rw [acRCnt_same (by decide)]; exact J.rd), (J.bk), (J.fr), (fun h => J.own (un h)), (fun h => by rw [upd_ne rfl, hT] at h; cases h), (fun h => J.tb0 (un h)), (fun h => by rw [upd_ne rfl, hLast] at h; cases h)⟩⟩
        · skip
          have hLast : L 13 = false := (hcl 13 8 (by kernel_rfl) hLi)
          have hT : L 11 = false := (hcl 11 10 (by kernel_rfl) (hcl 10 9 (by kernel_rfl) (hcl 9 8 (by kernel_rfl) hLi)))
          obtain ⟨g, k, arr, rfl, hg, v, hv⟩ := J.f7 (haft ⟨7, .data⟩ (by simp) rfl) hT
          have hc : W.cell? ⟨g, k, none⟩ = some (.int .i64 v) := (cellB hg.2).trans hv
          go_simp
          exact hK _ _ ⟨_, _, _, _, _, _, _, _, _, _, _, _, _, rfl, ⟨(fun h => J.f0 (un h)), (fun h => J.f1 (un h)), (fun h => J.f2 (un h)), (fun h => J.f3 (un h)), (fun h h2 => J.f4 (un h) (by rwa [upd_ne rfl] at h2)), (fun h => J.f5 (un h)), (fun h => J.f6 (un h)), (fun h h2 => J.f7 (un h) (by rwa [upd_ne rfl] at h2)), (fun _ => ⟨v, rfl⟩), (fun h => J.f9 (un h)), (fun h h2 => J.f10 (un h) (by rwa [upd_ne rfl] at h2)), (fun h => J.f12 (un h)), (by rw [acRCnt_same (by decide)]; exact J.rd), (J.bk), (J.fr), (fun h => J.own (un h)), (fun h => by rw [upd_ne rfl, hT] at h; cases h), (fun h => J.tb0 (un h)), (fun h => by rw [upd_ne rfl, hLast] at h; cases h)⟩⟩
        · skip
          have hLast : L 13 = false := (hcl 13 9 (by kernel_rfl) hLi)
          have hT : L 11 = false := (hcl 11 10 (by kernel_rfl) (hcl 10 9 (by kernel_rfl) hLi))
          obtain ⟨k, rfl, k0, k1⟩ := J.f3 (haft ⟨3, .data⟩ (by simp) rfl)
          obtain ⟨v, rfl⟩ := J.f8 (haft ⟨8, .data⟩ (by simp) rfl)
          go_simp
          exact hK _ _ ⟨_, _, _, _, _, _, _, _, _, _, _, _, _, rfl, ⟨(fun h => J.f0 (un h)), (fun h => J.f1 (un h)), (fun h => J.f2 (un h)), (fun h => J.f3 (un h)), (fun h h2 => J.f4 (un h) (by rwa [upd_ne rfl] at h2)), (fun h => J.f5 (un h)), (fun h => J.f6 (un h)), (fun h h2 => J.f7 (un h) (by rwa [upd_ne rfl] at h2)), (fun h => J.f8 (un h)), (fun _ => ⟨k, v, rfl⟩), (fun h h2 => J.f10 (un h) (by rwa [upd_ne rfl] at h2)), (fun h => J.f12 (un h)), (by rw [acRCnt_same (by decide)]; exact J.rd), (J.bk), (J.fr), (fun h => J.own (un h)), (fun h => by rw [upd_ne rfl, hT] at h; cases h), (fun h => J.tb0 (un h)), (fun h => by rw [upd_ne rfl, hLast] at h; cases h)⟩⟩
        · skip
          have hLast : L 13 = false := (hcl 13 10 (by kernel_rfl) hLi)
          have hT : L 11 = false := (hcl 11 10 (by kernel_rfl) hLi)
          have hsz := J.bk.size
          obtain ⟨x, y, rfl⟩ := J.f9 (haft ⟨9, .data⟩ (by simp) rfl)
          go_simp
          exact hK _ _ ⟨_, _, _, _, _, _, _, _, _, _, _, _, _, rfl, ⟨(fun h => J.f0 (un h)), (fun h => J.f1 (un h)), (fun h => J.f2 (un h)), (fun h => J.f3 (un h)), (fun h h2 => (J.f4 (un h) (by rwa [upd_ne rfl] at h2)).bk hlt (bk_alloc r W _)), (fun h => J.f5 (un h)), (fun h => J.f6 (un h)), (fun h h2 => (J.f7 (un h) (by rwa [upd_ne rfl] at h2)).bk hlt (bk_alloc r W _)), (fun h => J.f8 (un h)), (fun h => J.f9 (un h)), (fun _ _ => ⟨W.heap.size, _, rfl, Hp.new hsz _, x, y, rfl⟩), (fun h => J.f12 (un h)), (by rw [acRCnt_same (by decide)]; exact J.rd.alloc _), (J.bk.alloc _), (hF _ _ J.fr (Off.bk (bk_alloc r W _) hlt)), (fun h => row_bk (J.own (un h)) (bk_alloc r W _) hlt), (fun h => by rw [upd_ne rfl, hT] at h; cases h), (fun h => (Below.heap_alloc _ _ _ (Array.getElem?_eq_some_iff.1 (J.tb0 (un h))).1).trans (J.tb0 (un h))), (fun h => by rw [upd_ne rfl, hLast] at h; cases h)⟩⟩
        · skip
          have hLast : L 13 = false := (hcl 13 11 (by kernel_rfl) hLi)
          have hT : L 11 = false := hLi
          obtain rfl := J.f1 (haft ⟨1, .data⟩ (by simp) rfl)
          obtain ⟨g, arr, rfl, hg, x, y, rfl⟩ := J.f10 (haft ⟨10, .data⟩ (by simp) rfl) hT
          rw [if_pos (by rfl)]
          refine wp_append_own _ _ _ 34 rfl w.heap.size 76 i0 _ 2 16 Try.underlying34 hi0 hz0 hz1' hz2 rfl (by decide) _ ps.length (ps.flatMap colVs) rfl (J.own hT) ⟨g, 0, none⟩ 1 1 [.int .i64 x, .int .i64 y] rfl rfl (news_at hg.2) (by simp [Value.oneCell']) (by unfold maxLen; omega) (by omega) (by have := J.bk.size; omega) ?_
          intro v' W2 hown2 hg2 _
          exact hK _ _ ⟨_, _, _, _, _, _, _, _, _, _, _, _, _, rfl, ⟨(fun h => J.f0 (un h)), (fun h => J.f1 (un h)), (fun h => J.f2 (un h)), (fun h => J.f3 (un h)), (fun _ h2 => by rw [upd_self] at h2; cases h2), (fun h => J.f5 (un h)), (fun h => J.f6 (un h)), (fun _ h2 => by rw [upd_self] at h2; cases h2), (fun h => J.f8 (un h)), (fun h => J.f9 (un h)), (fun _ h2 => by rw [upd_self] at h2; cases h2), (fun h => J.f12 (un h)), (by rw [acRCnt_same (by decide)]; exact J.rd.grown hg2 hUr), (J.bk.grown hg2 hUn), (hF _ _ J.fr (Off.grown hg2)), (fun h => by rw [upd_self] at h; cases h), (fun _ => ⟨_, ⟨(x, y), rfl⟩, hown2⟩), (fun h => blk_grown (J.tb0 (un h)) hg2 (ne_of_own (row_ne_block (J.own hT) (J.tb0 hLast) (by decide)))), (fun h => by rw [upd_ne rfl, hLast] at h; cases h)⟩⟩
        · skip
          have hLast : L 13 = false := (hcl 13 12 (by kernel_rfl) hLi)
          go_simp
          exact hK _ _ ⟨_, _, _, _, _, _, _, _, _, _, _, _, _, rfl, ⟨(fun h => J.f0 (un h)), (fun h => J.f1 (un h)), (fun h => J.f2 (un h)), (fun h => J.f3 (un h)), (fun h h2 => J.f4 (un h) (by rwa [upd_ne rfl] at h2)), (fun h => J.f5 (un h)), (fun h => J.f6 (un h)), (fun h h2 => J.f7 (un h) (by rwa [upd_ne rfl] at h2)), (fun h => J.f8 (un h)), (fun h => J.f9 (un h)), (fun h h2 => J.f10 (un h) (by rwa [upd_ne rfl] at h2)), (fun _ => rfl), (by rw [acRCnt_same (by decide)]; exact J.rd), (J.bk), (J.fr), (fun h => J.own (un h)), (fun h => J.ownA (un h)), (fun h => J.tb0 (un h)), (fun h => by rw [upd_ne rfl, hLast] at h; cases h)⟩⟩
        · skip
          have hLast : L 13 = false := hLi
          have hTop : L 11 = true := (haft ⟨11, .data⟩ (by simp) rfl)
          obtain ⟨_, _, hO⟩ := J.ownA hTop
          obtain ⟨aa, cc, rfl, _⟩ := row_form hO
          clear hO
          obtain rfl := J.f12 (haft ⟨12, .data⟩ (by simp) rfl)
          have hc := (cellB (p := 0) (J.tb0 hLast)).trans rfl
          have hf : W.frozen? ⟨w1.heap.size, 0, none⟩ = false := freeB (J.tb0 hLast)
          go_simp
          exact hK _ _ ⟨_, _, _, _, _, _, _, _, _, _, _, _, _, rfl, ⟨(fun h => J.f0 (un h)), (fun h => J.f1 (un h)), (fun h => J.f2 (un h)), (fun h => J.f3 (un h)), (fun _ h2 => by rw [upd_ne rfl, hTop] at h2; cases h2), (fun h => J.f5 (un h)), (fun h => J.f6 (un h)), (fun _ h2 => by rw [upd_ne rfl, hTop] at h2; cases h2), (fun h => J.f8 (un h)), (fun h => J.f9 (un h)), (fun _ h2 => by rw [upd_ne rfl, hTop] at h2; cases h2), (fun h => J.f12 (un h)), (by rw [acRCnt_same (by decide)]; exact J.rd.set (p := ⟨w1.heap.size, 0, none⟩) htr (.slice aa (ps.length + 1) cc)), (J.bk.set (p := ⟨w1.heap.size, 0, none⟩) (.inr htn) (.slice aa (ps.length + 1) cc)), (hF _ _ J.fr (Off.set W ⟨w1.heap.size, 0, none⟩ rfl (.slice aa (ps.length + 1) cc))), (fun h => by rw [upd_ne rfl, hTop] at h; cases h), (fun _ => by obtain ⟨nw, h1, h2⟩ := J.ownA hTop; exact ⟨nw, h1, row_set (p := 0) h2 (J.tb0 hLast) (by decide) (.slice aa (ps.length + 1) cc)⟩), (fun h => by rw [upd_self] at h; cases h), (fun _ => setB (J.tb0 hLast) (.slice aa (ps.length + 1) cc))⟩⟩
      case hd =>
        rename_i K0 hK0
        intro L a W hJ hall
        obtain ⟨v63, v64, v65, v66, v67, v68, v69, v70, v71, v72, v73, v74, v75, ha, J⟩ := hJ
        dsimp only at ha
        subst ha
        obtain ⟨_, ⟨p, rfl⟩, hO1⟩ := J.ownA (hall 11 (by simp))
        have hT1 : W.heap[w1.heap.size]? = some (.cells #[v74, .int .i64 hd, .int .i64 ft, .slice ar ur.length cr, .int .i64 gp] 37) := J.tb1 (hall 13 (by simp))
        have hO2 : OwnCol W w.heap.size v74 (ps ++ [p]) := by
          show W.ownsRow _ _ _ _ _ _
          rw [List.length_append, List.flatMap_append]
          simpa using hO1
        generalize hqs : ps ++ [p] = qs at hO2
        have hql : qs.length ≤ 9 := by rw [← hqs]; simp; omega
        obtain ⟨aa, ca, rfl, _⟩ := row_form hO2
        have HT9 := Hid.intro hT1
        have HX9 := Hid.intro J.fr.2
        have HO9 := Hid.intro hO2
        have HW9 : Hid (W.ownsRow w.heap.size 51 2 (.slice ar ur.length cr) ur.length (ur.flatMap rowVs) ∧ ∀ p ∈ ur, OwnC W w.heap.size p.1 p.2.cells) := ⟨J.fr.1.own, J.fr.1.cells⟩
        have HB9 := Hid.intro J.bk
        have HR9 : Hid (Rd W r (B + 2100)) := J.rd.mono (by have := acRCnt_le L; omega)
        clear J hall hT1 hRd hBk hTb hF hFr hct hrt hut hO1 hO2 hOwn hqs
        refine hK0 _ _ ?_
        clear hK0
        obtain ⟨⟨d0, d1, d2, d3, d4⟩, _⟩ := fiveZ HT9.out
        obtain ⟨⟨x0, x1, x2, x3, x4⟩, y0, y1, y2, y3, y4⟩ := fiveZ HX9.out
        have k5 := st5_bk W w.heap.size (.slice aa qs.length ca) (.int .i64 hd) (.int .i64 ft) (.slice ar ur.length cr) (.int .i64 gp)
        have HZ := own_st5' HO9.out HW9.out.1 HW9.out.2 HX9.out (.slice aa qs.length ca) (.int .i64 hd) (.int .i64 ft) (.slice ar ur.length cr) (.int .i64 gp)
        have HZ1 := Hid.intro HZ.1.at
        have HZ2 := Hid.intro (rows_at HZ.2.1 HZ.2.2 (fun p hp => (HS.out p hp).2))
        have HZR : Hid (Rd (st5 W w.heap.size (.slice aa qs.length ca) (.int .i64 hd) (.int .i64 ft) (.slice ar ur.length cr) (.int .i64 gp)) r (B + 3000)) := (HR9.out.keep (fun k hk => k5.block k (by have := HR9.out.lt; omega) (by omega))).mono (by omega)
        have HZB : Hid (Bk r w (st5 W w.heap.size (.slice aa qs.length ca) (.int .i64 hd) (.int .i64 ft) (.slice ar ur.length cr) (.int .i64 gp))) := HB9.out.via k5 (Nat.le_refl _)
        clear HT9 HX9 HO9 HW9 HB9 HR9 k5 HZ
        go_wp2
        exact bodyPost_ret (v := .agg #[.slice aa qs.length ca, .int .i64 hd, .int .i64 ft, .slice ar ur.length cr, .int .i64 gp]) (by simp [results, Try.results37, go_sem, x0, x1, x2, x3, x4]) rfl (AnyPost.mk'  ⟨by simp; omega, hql, by dsimp only; omega, by dsimp only; omega, by dsimp only; omega, cells_of HS.out, few_of HS.out⟩ HZ1.out HZ2.out HZR.out HZB.out)
    · skip
      rcases HW.out.own.2 with ⟨e, _⟩ | ⟨rb, cap, cur, e, hrb, hrc, hrn, hrm, hrs, hrtk⟩
      · simp only [Value.slice.injEq] at e
        omega
      simp only [Value.slice.injEq, true_and] at e
      obtain ⟨rfl, rfl⟩ := e
      have hkk : kk < ur.length := by omega
      have htc : cur[kk * 2]? = some ur[kk].1 := by
        have e1 := flat_get rowVs 2 (fun _ => rfl) ur kk hkk 0 (by omega)
        rw [← hrtk, Nat.add_zero, List.getElem?_take_of_lt (by omega), Array.getElem?_toList] at e1
        exact e1
      obtain ⟨u, eu⟩ : ∃ u, ur[kk].1 = u := ⟨_, rfl⟩
      obtain ⟨cs, ec⟩ : ∃ cs, ur[kk].2.cells = cs := ⟨_, rfl⟩
      have hOwn : OwnC w4 w.heap.size u cs := by rw [← eu, ← ec]; exact HW.out.cells _ (List.getElem_mem hkk)
      have hnn : cs.length ≤ 4 := by rw [← ec]; exact (HS.out _ (List.getElem_mem hkk)).1
      rw [eu] at htc
      have hRd := HR.out
      have hBk := HB.out
      have hTb := hrc
      obtain ⟨i0, hi0, hz0, hz1', hz2⟩ := info_parts infoCell
      have hUn : ∀ i, u.ownBlock = some i → w.heap.size ≤ i := fun i hi => (row_lt hOwn hi).1
      have hUr : ∀ i, u.ownBlock = some i → r < i := fun i hi => by have := hUn i hi; omega
      have htr : r < rb := by omega
      have htn : w.heap.size ≤ rb := hrb
      have htb : rb ≠ r := by omega
      have hF : Stays w.heap.size rb u (FC w w1.heap.size #[.slice ac ps.length cc, .int .i64 hd, .int .i64 ft, .slice (some ⟨rb, 0, none⟩) ur.length cr, .int .i64 gp] (.slice ac ps.length cc) ps ur kk) := FC.stays (by omega) (fun e => by injection e with e; subst e; have := HT.out.symm.trans hrc; simp at this) (ne_of_own (row_ne_block hOwn HT.out (by decide))) (row_ne_block HO.out hrc (by decide)) (row_ne HO.out hOwn (by decide)) (fun e => by injection e with e; rw [e] at HX; have := HX.out.symm.trans hrc; simp at this) (ne_of_own (row_ne_block hOwn HX.out (by decide))) (fun i hi hne => ⟨row_ne_block (HW.out.cells _ (List.getElem_mem hi)) hrc (by decide), by rw [← eu]; exact HW.out.other hi hkk hne⟩)
      have hFr : FC w w1.heap.size #[.slice ac ps.length cc, .int .i64 hd, .int .i64 ft, .slice (some ⟨rb, 0, none⟩) ur.length cr, .int .i64 gp] (.slice ac ps.length cc) ps ur kk w4 := ⟨HT.out, HO.out, HX.out, fun i hi _ => HW.out.cells _ (List.getElem_mem hi)⟩
      have hTB : ∀ W, FC w w1.heap.size #[.slice ac ps.length cc, .int .i64 hd, .int .i64 ft, .slice (some ⟨rb, 0, none⟩) ur.length cr, .int .i64 gp] (.slice ac ps.length cc) ps ur kk W → W.heap[w1.heap.size]? = some (.cells #[.slice ac ps.length cc, .int .i64 hd, .int .i64 ft, .slice (some ⟨rb, 0, none⟩) ur.length cr, .int .i64 gp] 37) := fun _ h => h.1
      clear HT HX HO HW HB HR hrc
      go_wp2_with fail
      refine wp_region_inv2 (crR r (B + 2000 + 1 + 1 + 1) w.heap.size w (FC w w1.heap.size #[.slice ac ps.length cc, .int .i64 hd, .int .i64 ft, .slice (some ⟨rb, 0, none⟩) ur.length cr, .int .i64 gp] (.slice ac ps.length cc) ps ur kk) w.heap.size u cs.length (cs.flatMap cellVs) rb cur w1.heap.size kk ur.length cr (fun v78 v79 v80 v81 v82 v83 v84 v85 v86 v87 v88 v89 v90 v91 v92 => ⟨#[.pointer (some ⟨r, 0, none⟩), .int .i64 n, undef, undef, .pointer (some ⟨w.heap.size, 0, none⟩), .pointer (some ⟨w1.heap.size, 0, none⟩), .int .i64 (kk : Int), .pointer (some ⟨r, 0, none⟩), .agg #[.slice ac ps.length cc, .int .i64 hd, .int .i64 ft, .slice (some ⟨rb, 0, none⟩) ur.length cr, .int .i64 gp], .pointer (some ⟨r, 0, none⟩), .int .i64 n, .int .i64 k2, .bool (decide (0 < k2)), undef, .pointer (some ⟨r, 0, none⟩), .pointer (some ⟨w1.heap.size, 3, none⟩), .slice (some ⟨rb, 0, none⟩) ur.length cr, .int .i64 (ur.length : Int), .int .i64 (kk : Int), .pointer (some ⟨r, 0, none⟩), .int .i64 4, undef, undef, undef, undef, undef, undef, undef, undef, undef, undef, .bool false, .bool false, undef, undef, undef, undef, undef, undef, undef, undef, undef, .bool false, .bool false, undef, undef, undef, undef, undef, undef, undef, undef, undef, .bool false, .bool false, undef, undef, undef, undef, undef, undef, .bool false, .bool false, undef, undef, undef, undef, undef, undef, undef, undef, undef, undef, undef, undef, undef, .bool true, .bool true, v78, v79, v80, v81, v82, v83, v84, v85, v86, v87, v88, v89, v90, v91, v92, undef], []⟩)) (by kernel_rfl) (by kernel_rfl) ?hs ?hd ?h0
      case h0 =>
        exact ⟨_, _, _, _, _, _, _, _, _, _, _, _, _, _, _, rfl, ⟨(fun h => by cases h), (fun h => by cases h), (fun h => by cases h), (fun h => by cases h), (fun h => by cases h), (fun h => by cases h), (fun h => by cases h), (fun h => by cases h), (fun h => by cases h), (fun h => by cases h), (fun h => by cases h), (fun h _ => by cases h), (fun h => by cases h), (fun h => by cases h), hRd.drew, hBk.drew, hF _ _ hFr (Off.bk ((Bk.refl r _).drew) hlt), (fun _ => hOwn), (fun h => by cases h), (fun _ => hTb), (fun h => by cases h)⟩⟩
      case hs =>
        rename_i K0 hK0
        clear hK0
        intro L a W i o hJ hcl ho hLi haft K hK
        obtain ⟨v78, v79, v80, v81, v82, v83, v84, v85, v86, v87, v88, v89, v90, v91, v92, ha, J⟩ := hJ
        dsimp only at ha
        subst ha
        have hi : i < 16 := by
          have := (Array.getElem?_eq_some_iff.1 ho).1
          simpa using this
        rcases (by omega : i = 0 ∨ i = 1 ∨ i = 2 ∨ i = 3 ∨ i = 4 ∨ i = 5 ∨ i = 6 ∨ i = 7 ∨ i = 8 ∨ i = 9 ∨ i = 10 ∨ i = 11 ∨ i = 12 ∨ i = 13 ∨ i = 14 ∨ i = 15) with rfl | rfl | rfl | rfl | rfl | rfl | rfl | rfl | rfl | rfl | rfl | rfl | rfl | rfl | rfl | rfl
        all_goals
          simp only [List.getElem?_toArray, List.getElem?_cons_zero, List.getElem?_cons_succ, Option.some.injEq] at ho
          subst ho
          clear hi
        · skip
          have hLast : L 15 = false := (hcl 15 0 (by kernel_rfl) hLi)
          go_simp
          exact hK _ _ ⟨_, _, _, _, _, _, _, _, _, _, _, _, _, _, _, rfl, ⟨(fun _ => rfl), (fun h => J.f1 (un h)), (fun h => J.f2 (un h)), (fun h => J.f3 (un h)), (fun h => J.f4 (un h)), (fun h => J.f5 (un h)), (fun h => J.f6 (un h)), (fun h => J.f7 (un h)), (fun h => J.f8 (un h)), (fun h => J.f9 (un h)), (fun h => J.f10 (un h)), (fun h h2 => J.f11 (un h) (by rwa [upd_ne rfl] at h2)), (fun h => J.f13 (un h)), (fun h => J.f14 (un h)), (by rw [crRCnt_same (by decide)]; exact J.rd), (J.bk), (J.fr), (fun h => J.own (un h)), (fun h => J.ownA (un h)), (fun h => J.tb0 (un h)), (fun h => by rw [upd_ne rfl, hLast] at h; cases h)⟩⟩
        · skip
          have hLast : L 15 = false := (hcl 15 1 (by kernel_rfl) hLi)
          obtain rfl := J.f0 (haft ⟨0, .data⟩ (by simp) rfl)
          have hc : W.cell? ⟨w1.heap.size, 3, none⟩ = some (.slice (some ⟨rb, 0, none⟩) ur.length cr) := (cellB (hTB W J.fr)).trans rfl
          go_simp
          exact hK _ _ ⟨_, _, _, _, _, _, _, _, _, _, _, _, _, _, _, rfl, ⟨(fun h => J.f0 (un h)), (fun _ => rfl), (fun h => J.f2 (un h)), (fun h => J.f3 (un h)), (fun h => J.f4 (un h)), (fun h => J.f5 (un h)), (fun h => J.f6 (un h)), (fun h => J.f7 (un h)), (fun h => J.f8 (un h)), (fun h => J.f9 (un h)), (fun h => J.f10 (un h)), (fun h h2 => J.f11 (un h) (by rwa [upd_ne rfl] at h2)), (fun h => J.f13 (un h)), (fun h => J.f14 (un h)), (by rw [crRCnt_same (by decide)]; exact J.rd), (J.bk), (J.fr), (fun h => J.own (un h)), (fun h => J.ownA (un h)), (fun h => J.tb0 (un h)), (fun h => by rw [upd_ne rfl, hLast] at h; cases h)⟩⟩
        · skip
          have hLast : L 15 = false := (hcl 15 2 (by kernel_rfl) hLi)
          go_simp
          exact hK _ _ ⟨_, _, _, _, _, _, _, _, _, _, _, _, _, _, _, rfl, ⟨(fun h => J.f0 (un h)), (fun h => J.f1 (un h)), (fun _ => rfl), (fun h => J.f3 (un h)), (fun h => J.f4 (un h)), (fun h => J.f5 (un h)), (fun h => J.f6 (un h)), (fun h => J.f7 (un h)), (fun h => J.f8 (un h)), (fun h => J.f9 (un h)), (fun h => J.f10 (un h)), (fun h h2 => J.f11 (un h) (by rwa [upd_ne rfl] at h2)), (fun h => J.f13 (un h)), (fun h => J.f14 (un h)), (by rw [crRCnt_same (by decide)]; exact J.rd), (J.bk), (J.fr), (fun h => J.own (un h)), (fun h => J.ownA (un h)), (fun h => J.tb0 (un h)), (fun h => by rw [upd_ne rfl, hLast] at h; cases h)⟩⟩
        · skip
          have hLast : L 15 = false := (hcl 15 3 (by kernel_rfl) hLi)
          have hT : L 12 = false := (hcl 12 8 (by kernel_rfl) (hcl 8 7 (by kernel_rfl) (hcl 7 6 (by kernel_rfl) (hcl 6 4 (by kernel_rfl) (hcl 4 3 (by kernel_rfl) hLi)))))
          go_simp
          exact hK _ _ ⟨_, _, _, _, _, _, _, _, _, _, _, _, _, _, _, rfl, ⟨(fun h => J.f0 (un h)), (fun h => J.f1 (un h)), (fun h => J.f2 (un h)), (fun _ => rfl), (fun h => J.f4 (un h)), (fun h => J.f5 (un h)), (fun h => J.f6 (un h)), (fun h => J.f7 (un h)), (fun h => J.f8 (un h)), (fun h => J.f9 (un h)), (fun h => J.f10 (un h)), (fun h h2 => J.f11 (un h) (by rwa [upd_ne rfl] at h2)), (fun h => J.f13 (un h)), (fun h => J.f14 (un h)), (by rw [crRCnt_same (by decide)]; exact J.rd), (J.bk), (J.fr), (fun h => J.own (un h)), (fun h => by rw [upd_ne rfl, hT] at h; cases h), (fun h => J.tb0 (un h)), (fun h => by rw [upd_ne rfl, hLast] at h; cases h)⟩⟩
        · skip
          have hLast : L 15 = false := (hcl 15 4 (by kernel_rfl) hLi)
          have hT : L 12 = false := (hcl 12 8 (by kernel_rfl) (hcl 8 7 (by kernel_rfl) (hcl 7 6 (by kernel_rfl) (hcl 6 4 (by kernel_rfl) hLi))))
          obtain rfl := J.f3 (haft ⟨3, .data⟩ (by simp) rfl)
          have hc : W.cell? ⟨w1.heap.size, 3, none⟩ = some (.slice (some ⟨rb, 0, none⟩) ur.length cr) := (cellB (hTB W J.fr)).trans rfl
          go_simp
          exact hK _ _ ⟨_, _, _, _, _, _, _, _, _, _, _, _, _, _, _, rfl, ⟨(fun h => J.f0 (un h)), (fun h => J.f1 (un h)), (fun h => J.f2 (un h)), (fun h => J.f3 (un h)), (fun _ => rfl), (fun h => J.f5 (un h)), (fun h => J.f6 (un h)), (fun h => J.f7 (un h)), (fun h => J.f8 (un h)), (fun h => J.f9 (un h)), (fun h => J.f10 (un h)), (fun h h2 => J.f11 (un h) (by rwa [upd_ne rfl] at h2)), (fun h => J.f13 (un h)), (fun h => J.f14 (un h)), (by rw [crRCnt_same (by decide)]; exact J.rd), (J.bk), (J.fr), (fun h => J.own (un h)), (fun h => by rw [upd_ne rfl, hT] at h; cases h), (fun h => J.tb0 (un h)), (fun h => by rw [upd_ne rfl, hLast] at h; cases h)⟩⟩
        · skip
          have hLast : L 15 = false := (hcl 15 5 (by kernel_rfl) hLi)
          have hT : L 12 = false := (hcl 12 8 (by kernel_rfl) (hcl 8 7 (by kernel_rfl) (hcl 7 6 (by kernel_rfl) (hcl 6 5 (by kernel_rfl) hLi))))
          go_simp
          exact hK _ _ ⟨_, _, _, _, _, _, _, _, _, _, _, _, _, _, _, rfl, ⟨(fun h => J.f0 (un h)), (fun h => J.f1 (un h)), (fun h => J.f2 (un h)), (fun h => J.f3 (un h)), (fun h => J.f4 (un h)), (fun _ => rfl), (fun h => J.f6 (un h)), (fun h => J.f7 (un h)), (fun h => J.f8 (un h)), (fun h => J.f9 (un h)), (fun h => J.f10 (un h)), (fun h h2 => J.f11 (un h) (by rwa [upd_ne rfl] at h2)), (fun h => J.f13 (un h)), (fun h => J.f14 (un h)), (by rw [crRCnt_same (by decide)]; exact J.rd), (J.bk), (J.fr), (fun h => J.own (un h)), (fun h => by rw [upd_ne rfl, hT] at h; cases h), (fun h => J.tb0 (un h)), (fun h => by rw [upd_ne rfl, hLast] at h; cases h)⟩⟩
        · skip
          have hLast : L 15 = false := (hcl 15 6 (by kernel_rfl) hLi)
          have hT : L 12 = false := (hcl 12 8 (by kernel_rfl) (hcl 8 7 (by kernel_rfl) (hcl 7 6 (by kernel_rfl) hLi)))
          obtain rfl := J.f4 (haft ⟨4, .data⟩ (by simp) rfl)
          obtain rfl := J.f5 (haft ⟨5, .data⟩ (by simp) rfl)
          go_simp
          exact hK _ _ ⟨_, _, _, _, _, _, _, _, _, _, _, _, _, _, _, rfl, ⟨(fun h => J.f0 (un h)), (fun h => J.f1 (un h)), (fun h => J.f2 (un h)), (fun h => J.f3 (un h)), (fun h => J.f4 (un h)), (fun h => J.f5 (un h)), (fun _ => rfl), (fun h => J.f7 (un h)), (fun h => J.f8 (un h)), (fun h => J.f9 (un h)), (fun h => J.f10 (un h)), (fun h h2 => J.f11 (un h) (by rwa [upd_ne rfl] at h2)), (fun h => J.f13 (un h)), (fun h => J.f14 (un h)), (by rw [crRCnt_same (by decide)]; exact J.rd), (J.bk), (J.fr), (fun h => J.own (un h)), (fun h => by rw [upd_ne rfl, hT] at h; cases h), (fun h => J.tb0 (un h)), (fun h => by rw [upd_ne rfl, hLast] at h; cases h)⟩⟩
        · skip
          have hLast : L 15 = false := (hcl 15 7 (by kernel_rfl) hLi)
          have hT : L 12 = false := (hcl 12 8 (by kernel_rfl) (hcl 8 7 (by kernel_rfl) hLi))
          obtain rfl := J.f6 (haft ⟨6, .data⟩ (by simp) rfl)
          go_simp
          exact hK _ _ ⟨_, _, _, _, _, _, _, _, _, _, _, _, _, _, _, rfl, ⟨(fun h => J.f0 (un h)), (fun h => J.f1 (un h)), (fun h => J.f2 (un h)), (fun h => J.f3 (un h)), (fun h => J.f4 (un h)), (fun h => J.f5 (un h)), (fun h => J.f6 (un h)), (fun _ => rfl), (fun h => J.f8 (un h)), (fun h => J.f9 (un h)), (fun h => J.f10 (un h)), (fun h h2 => J.f11 (un h) (by rwa [upd_ne rfl] at h2)), (fun h => J.f13 (un h)), (fun h => J.f14 (un h)), (by rw [crRCnt_same (by decide)]; exact J.rd), (J.bk), (J.fr), (fun h => J.own (un h)), (fun h => by rw [upd_ne rfl, hT] at h; cases h), (fun h => J.tb0 (un h)), (fun h => by rw [upd_ne rfl, hLast] at h; cases h)⟩⟩
        · skip
          have hLast : L 15 = false := (hcl 15 8 (by kernel_rfl) hLi)
          have hT : L 12 = false := (hcl 12 8 (by kernel_rfl) hLi)
          obtain rfl := J.f7 (haft ⟨7, .data⟩ (by simp) rfl)
          have hc : W.cell? ⟨rb, kk * 2, none⟩ = some u := (cellB (J.tb0 hLast)).trans htc
          go_simp
          exact hK _ _ ⟨_, _, _, _, _, _, _, _, _, _, _, _, _, _, _, rfl, ⟨(fun h => J.f0 (un h)), (fun h => J.f1 (un h)), (fun h => J.f2 (un h)), (fun h => J.f3 (un h)), (fun h => J.f4 (un h)), (fun h => J.f5 (un h)), (fun h => J.f6 (un h)), (fun h => J.f7 (un h)), (fun _ => rfl), (fun h => J.f9 (un h)), (fun h => J.f10 (un h)), (fun h h2 => J.f11 (un h) (by rwa [upd_ne rfl] at h2)), (fun h => J.f13 (un h)), (fun h => J.f14 (un h)), (by rw [crRCnt_same (by decide)]; exact J.rd), (J.bk), (J.fr), (fun h => J.own (un h)), (fun h => by rw [upd_ne rfl, hT] at h; cases h), (fun h => J.tb0 (un h)), (fun h => by rw [upd_ne rfl, hLast] at h; cases h)⟩⟩
        · skip
          have hLast : L 15 = false := (hcl 15 9 (by kernel_rfl) hLi)
          have hT : L 12 = false := (hcl 12 11 (by kernel_rfl) (hcl 11 10 (by kernel_rfl) (hcl 10 9 (by kernel_rfl) hLi)))
          go_simp
          exact hK _ _ ⟨_, _, _, _, _, _, _, _, _, _, _, _, _, _, _, rfl, ⟨(fun h => J.f0 (un h)), (fun h => J.f1 (un h)), (fun h => J.f2 (un h)), (fun h => J.f3 (un h)), (fun h => J.f4 (un h)), (fun h => J.f5 (un h)), (fun h => J.f6 (un h)), (fun h => J.f7 (un h)), (fun h => J.f8 (un h)), (fun _ => rfl), (fun h => J.f10 (un h)), (fun h h2 => J.f11 (un h) (by rwa [upd_ne rfl] at h2)), (fun h => J.f13 (un h)), (fun h => J.f14 (un h)), (by rw [crRCnt_same (by decide)]; exact J.rd), (J.bk), (J.fr), (fun h => J.own (un h)), (fun h => by rw [upd_ne rfl, hT] at h; cases h), (fun h => J.tb0 (un h)), (fun h => by rw [upd_ne rfl, hLast] at h; cases h)⟩⟩
        · skip
          have hLast : L 15 = false := (hcl 15 10 (by kernel_rfl) hLi)
          have hT : L 12 = false := (hcl 12 11 (by kernel_rfl) (hcl 11 10 (by kernel_rfl) hLi))
          obtain rfl := J.f9 (haft ⟨9, .data⟩ (by simp) rfl)
          go_simp
          go_wp2_with (go_at_call 34; refine (l20Cell_any r _ 1 (by omega) _ J.rd (by have := crRCnt_le L; omega)).mono ?_; rintro e W2 ⟨x, rfl, hx1, hx2, hR, hb⟩)
          exact ⟨_, _, _, _, _, _, _, _, _, _, _, _, _, _, _, rfl, ⟨(fun h => J.f0 (un h)), (fun h => J.f1 (un h)), (fun h => J.f2 (un h)), (fun h => J.f3 (un h)), (fun h => J.f4 (un h)), (fun h => J.f5 (un h)), (fun h => J.f6 (un h)), (fun h => J.f7 (un h)), (fun h => J.f8 (un h)), (fun h => J.f9 (un h)), (fun _ => ⟨x, rfl, hx1, hx2⟩), (fun h h2 => (J.f11 (un h) (by rwa [upd_ne rfl] at h2)).bk hlt hb), (fun h => J.f13 (un h)), (fun h => J.f14 (un h)), (by rw [crRCnt_10 hLi, ← Nat.add_assoc]; exact hR), (J.bk.trans hb), (hF _ _ J.fr (Off.bk hb hlt)), (fun h => row_bk (J.own (un h)) hb hlt), (fun h => by rw [upd_ne rfl, hT] at h; cases h), (fun h => (hb.block rb (Array.getElem?_eq_some_iff.1 (J.tb0 (un h))).1 htb).trans (J.tb0 (un h))), (fun h => by rw [upd_ne rfl, hLast] at h; cases h)⟩⟩
        · skip
          have hLast : L 15 = false := (hcl 15 11 (by kernel_rfl) hLi)
          have hT : L 12 = false := (hcl 12 11 (by kernel_rfl) hLi)
          have hsz := J.bk.size
          obtain ⟨x, rfl, hx⟩ := J.f10 (haft ⟨10, .data⟩ (by simp) rfl)
          go_simp
          exact hK _ _ ⟨_, _, _, _, _, _, _, _, _, _, _, _, _, _, _, rfl, ⟨(fun h => J.f0 (un h)), (fun h => J.f1 (un h)), (fun h => J.f2 (un h)), (fun h => J.f3 (un h)), (fun h => J.f4 (un h)), (fun h => J.f5 (un h)), (fun h => J.f6 (un h)), (fun h => J.f7 (un h)), (fun h => J.f8 (un h)), (fun h => J.f9 (un h)), (fun h => J.f10 (un h)), (fun _ _ => ⟨W.heap.size, _, rfl, Hp.new hsz _, x, rfl, hx⟩), (fun h => J.f13 (un h)), (fun h => J.f14 (un h)), (by rw [crRCnt_same (by decide)]; exact J.rd.alloc _), (J.bk.alloc _), (hF _ _ J.fr (Off.bk (bk_alloc r W _) hlt)), (fun h => row_bk (J.own (un h)) (bk_alloc r W _) hlt), (fun h => by rw [upd_ne rfl, hT] at h; cases h), (fun h => (Below.heap_alloc _ _ _ (Array.getElem?_eq_some_iff.1 (J.tb0 (un h))).1).trans (J.tb0 (un h))), (fun h => by rw [upd_ne rfl, hLast] at h; cases h)⟩⟩
        · skip
          have hLast : L 15 = false := (hcl 15 12 (by kernel_rfl) hLi)
          have hT : L 12 = false := hLi
          obtain rfl := J.f8 (haft ⟨8, .data⟩ (by simp) rfl)
          obtain ⟨g, arr, rfl, hg, x, rfl, hx⟩ := J.f11 (haft ⟨11, .data⟩ (by simp) rfl) hT
          rw [if_pos (by rfl)]
          refine wp_append_own _ _ _ 49 rfl w.heap.size 29 i0 _ 11 96 Try.underlying49 hi0 hz0 hz1' hz2 rfl (by decide) _ cs.length (cs.flatMap cellVs) rfl (J.own hT) ⟨g, 0, none⟩ 1 1 (cellVs x) rfl rfl (news_at hg.2) (by simp [cellVs, Value.oneCell']) (by unfold maxLen; omega) (by omega) (by have := J.bk.size; omega) ?_
          intro v' W2 hown2 hg2 _
          exact hK _ _ ⟨_, _, _, _, _, _, _, _, _, _, _, _, _, _, _, rfl, ⟨(fun h => J.f0 (un h)), (fun h => J.f1 (un h)), (fun h => J.f2 (un h)), (fun h => J.f3 (un h)), (fun h => J.f4 (un h)), (fun h => J.f5 (un h)), (fun h => J.f6 (un h)), (fun h => J.f7 (un h)), (fun h => J.f8 (un h)), (fun h => J.f9 (un h)), (fun h => J.f10 (un h)), (fun _ h2 => by rw [upd_self] at h2; cases h2), (fun h => J.f13 (un h)), (fun h => J.f14 (un h)), (by rw [crRCnt_same (by decide)]; exact J.rd.grown hg2 hUr), (J.bk.grown hg2 hUn), (hF _ _ J.fr (Off.grown hg2)), (fun h => by rw [upd_self] at h; cases h), (fun _ => ⟨_, ⟨x, rfl, hx⟩, hown2⟩), (fun h => blk_grown (J.tb0 (un h)) hg2 (ne_of_own (row_ne_block (J.own hT) (J.tb0 hLast) (by decide)))), (fun h => by rw [upd_ne rfl, hLast] at h; cases h)⟩⟩
        · skip
          have hLast : L 15 = false := (hcl 15 14 (by kernel_rfl) (hcl 14 13 (by kernel_rfl) hLi))
          obtain rfl := J.f1 (haft ⟨1, .data⟩ (by simp) rfl)
          obtain rfl := J.f2 (haft ⟨2, .data⟩ (by simp) rfl)
          go_simp
          exact hK _ _ ⟨_, _, _, _, _, _, _, _, _, _, _, _, _, _, _, rfl, ⟨(fun h => J.f0 (un h)), (fun h => J.f1 (un h)), (fun h => J.f2 (un h)), (fun h => J.f3 (un h)), (fun h => J.f4 (un h)), (fun h => J.f5 (un h)), (fun h => J.f6 (un h)), (fun h => J.f7 (un h)), (fun h => J.f8 (un h)), (fun h => J.f9 (un h)), (fun h => J.f10 (un h)), (fun h h2 => J.f11 (un h) (by rwa [upd_ne rfl] at h2)), (fun _ => rfl), (fun h => J.f14 (un h)), (by rw [crRCnt_same (by decide)]; exact J.rd), (J.bk), (J.fr), (fun h => J.own (un h)), (fun h => J.ownA (un h)), (fun h => J.tb0 (un h)), (fun h => by rw [upd_ne rfl, hLast] at h; cases h)⟩⟩
        · skip
          have hLast : L 15 = false := (hcl 15 14 (by kernel_rfl) hLi)
          obtain rfl := J.f13 (haft ⟨13, .data⟩ (by simp) rfl)
          go_simp
          exact hK _ _ ⟨_, _, _, _, _, _, _, _, _, _, _, _, _, _, _, rfl, ⟨(fun h => J.f0 (un h)), (fun h => J.f1 (un h)), (fun h => J.f2 (un h)), (fun h => J.f3 (un h)), (fun h => J.f4 (un h)), (fun h => J.f5 (un h)), (fun h => J.f6 (un h)), (fun h => J.f7 (un h)), (fun h => J.f8 (un h)), (fun h => J.f9 (un h)), (fun h => J.f10 (un h)), (fun h h2 => J.f11 (un h) (by rwa [upd_ne rfl] at h2)), (fun h => J.f13 (un h)), (fun _ => rfl), (by rw [crRCnt_same (by decide)]; exact J.rd), (J.bk), (J.fr), (fun h => J.own (un h)), (fun h => J.ownA (un h)), (fun h => J.tb0 (un h)), (fun h => by rw [upd_ne rfl, hLast] at h; cases h)⟩⟩
        · skip
          have hLast : L 15 = false := hLi
          have hTop : L 12 = true := (haft ⟨12, .data⟩ (by simp) rfl)
          obtain ⟨_, _, hO⟩ := J.ownA hTop
          obtain ⟨aa, cc, rfl, _⟩ := row_form hO
          clear hO
          obtain rfl := J.f14 (haft ⟨14, .data⟩ (by simp) rfl)
          have hc : W.cell? ⟨rb, kk * 2, none⟩ = some u := (cellB (J.tb0 hLast)).trans htc
          have hf : W.frozen? ⟨rb, kk * 2, none⟩ = false := freeB (J.tb0 hLast)
          go_simp
          exact hK _ _ ⟨_, _, _, _, _, _, _, _, _, _, _, _, _, _, _, rfl, ⟨(fun h => J.f0 (un h)), (fun h => J.f1 (un h)), (fun h => J.f2 (un h)), (fun h => J.f3 (un h)), (fun h => J.f4 (un h)), (fun h => J.f5 (un h)), (fun h => J.f6 (un h)), (fun h => J.f7 (un h)), (fun h => J.f8 (un h)), (fun h => J.f9 (un h)), (fun h => J.f10 (un h)), (fun _ h2 => by rw [upd_ne rfl, hTop] at h2; cases h2), (fun h => J.f13 (un h)), (fun h => J.f14 (un h)), (by rw [crRCnt_same (by decide)]; exact J.rd.set (p := ⟨rb, kk * 2, none⟩) htr (.slice aa (cs.length + 1) cc)), (J.bk.set (p := ⟨rb, kk * 2, none⟩) (.inr htn) (.slice aa (cs.length + 1) cc)), (hF _ _ J.fr (Off.set W ⟨rb, kk * 2, none⟩ rfl (.slice aa (cs.length + 1) cc))), (fun h => by rw [upd_ne rfl, hTop] at h; cases h), (fun _ => by obtain ⟨nw, h1, h2⟩ := J.ownA hTop; exact ⟨nw, h1, row_set (p := kk * 2) h2 (J.tb0 hLast) (by decide) (.slice aa (cs.length + 1) cc)⟩), (fun h => by rw [upd_self] at h; cases h), (fun _ => setB (J.tb0 hLast) (.slice aa (cs.length + 1) cc))⟩⟩
      case hd =>
        rename_i K0 hK0
        intro L a W hJ hall
        obtain ⟨v78, v79, v80, v81, v82, v83, v84, v85, v86, v87, v88, v89, v90, v91, v92, ha, J⟩ := hJ
        dsimp only at ha
        subst ha
        obtain ⟨_, ⟨x, rfl, hx⟩, hO1⟩ := J.ownA (hall 12 (by simp))
        have hT1 : W.heap[rb]? = some (.cells (cur.setIfInBounds (kk * 2) v90) 51) := J.tb1 (hall 15 (by simp))
        have hO2 : OwnC W w.heap.size v90 (ur[kk].2.cells ++ [x]) := by
          rw [ec]
          show W.ownsRow _ _ _ _ _ _
          rw [List.length_append, List.flatMap_append]
          simpa using hO1
        have hM := more_cell hkk hrb hrn hrm hrs hrtk hT1 hO2 J.fr.2.2.2
        have hf := more_facts (v := v90) hkk HS.out hx
        have hul : (ur.set kk (v90, (⟨ur[kk].2.cells ++ [x], ur[kk].2.whole⟩ : R))).length = ur.length := by simp
        generalize ur.set kk (v90, (⟨ur[kk].2.cells ++ [x], ur[kk].2.whole⟩ : R)) = us at hM hf hul
        have hu9 : us.length ≤ 9 := by omega
        have HT9 : Hid (W.heap[w1.heap.size]? = some (.cells #[.slice ac ps.length cc, .int .i64 hd, .int .i64 ft, .slice (some ⟨rb, 0, none⟩) us.length cr, .int .i64 gp] 37)) := by
          show W.heap[w1.heap.size]? = _
          rw [hul]
          exact J.fr.1
        have HX9 := Hid.intro J.fr.2.2.1
        have HO9 := Hid.intro J.fr.2.1
        have HW9 := Hid.intro hM
        have HB9 := Hid.intro J.bk
        have HR9 : Hid (Rd W r (B + 2100)) := J.rd.mono (by have := crRCnt_le L; omega)
        have HF9 := Hid.intro hf
        clear J hall hT1 hRd hBk hTb hF hFr hO1 hO2 hOwn hM hf hul hrs hrtk eu ec hTB htc
        refine hK0 _ _ ?_
        clear hK0
        obtain ⟨⟨d0, d1, d2, d3, d4⟩, _⟩ := fiveZ HT9.out
        obtain ⟨⟨x0, x1, x2, x3, x4⟩, y0, y1, y2, y3, y4⟩ := fiveZ HX9.out
        have k5 := st5_bk W w.heap.size (.slice ac ps.length cc) (.int .i64 hd) (.int .i64 ft) (.slice (some ⟨rb, 0, none⟩) us.length cr) (.int .i64 gp)
        have HZ := own_st5' HO9.out HW9.out.1 HW9.out.2 HX9.out (.slice ac ps.length cc) (.int .i64 hd) (.int .i64 ft) (.slice (some ⟨rb, 0, none⟩) us.length cr) (.int .i64 gp)
        have HZ1 := Hid.intro HZ.1.at
        have HZ2 := Hid.intro (rows_at HZ.2.1 HZ.2.2 HF9.out.1)
        have HZR : Hid (Rd (st5 W w.heap.size (.slice ac ps.length cc) (.int .i64 hd) (.int .i64 ft) (.slice (some ⟨rb, 0, none⟩) us.length cr) (.int .i64 gp)) r (B + 3000)) := (HR9.out.keep (fun k hk => k5.block k (by have := HR9.out.lt; omega) (by omega))).mono (by omega)
        have HZB : Hid (Bk r w (st5 W w.heap.size (.slice ac ps.length cc) (.int .i64 hd) (.int .i64 ft) (.slice (some ⟨rb, 0, none⟩) us.length cr) (.int .i64 gp))) := HB9.out.via k5 (Nat.le_refl _)
        clear HT9 HX9 HO9 HW9 HB9 HR9 k5 HZ
        go_wp2
        exact bodyPost_ret (v := .agg #[.slice ac ps.length cc, .int .i64 hd, .int .i64 ft, .slice (some ⟨rb, 0, none⟩) us.length cr, .int .i64 gp]) (by simp [results, Try.results37, go_sem, x0, x1, x2, x3, x4]) rfl (AnyPost.mk'  ⟨by simp; omega, by dsimp only; omega, by dsimp only; omega, by dsimp only; omega, by dsimp only; omega, (fun q hq y hy => by obtain ⟨p, hp, rfl⟩ := List.mem_map.1 hq; exact HF9.out.1 p hp y hy), HF9.out.2⟩ HZ1.out HZ2.out HZR.out HZB.out)
    · skip
      obtain ⟨i0, hi0, hz0, hz1', hz2⟩ := info_parts infoRow
      go_wp2_with fail
      go_loopg [21] 9 (fun kx _ wr => ∃ (va : Option Addr) (ca : Nat) (us : List (Value × R)), us.length ≤ 9 ∧ 9 ≤ us.length + kx ∧ Hid (∀ p ∈ us, p.2.cells.length ≤ 4 ∧ ∀ x ∈ p.2.cells, Cx x) ∧ Hid (wr.heap[w1.heap.size]? = some (.cells #[.slice ac ps.length cc, .int .i64 hd, .int .i64 ft, .slice va us.length ca, .int .i64 gp] 37)) ∧ Hid (OwnCol wr w.heap.size (.slice ac ps.length cc) ps) ∧ Hid (OwnR wr w.heap.size (.slice va us.length ca) us) ∧ Hid (Rd wr r (B + 2000 + 1 + 1 + 1)) ∧ Hid (Bk r w wr) ∧ Hid (wr.heap[w.heap.size]? = some (.cells #[.slice none 0 0, .int .i64 0, .int .i64 0, .slice none 0 0, .int .i64 0] 37)))
      case atStart => exact ⟨ar, cr, ur, by omega, by omega, HS, HT, HO, HW, HR, HB, HX⟩
      case round =>
        obtain ⟨va, ca, us, hu9, hkx, HS', HT', HO', HW', HR', HB', HX'⟩ := hrel
        clear HT HO HW HR HB HX
        have t3 : wr.cell? ⟨w1.heap.size, 3, none⟩ = some (.slice va us.length ca) := cellB HT'.out
        by_cases h9 : us.length ≤ 8
        · have h9' : (us.length : Int) ≤ 8 := by omega
          have hla := bk_alloc r wr (.cells #[.slice none 0 0, .bool false] 51)
          have hsz : w.heap.size ≤ wr.heap.size := HB'.out.size
          have hOA := HW'.out.bk hla hlt
          have hXN := newestB wr (.cells #[.slice none 0 0, .bool false] 51)
          go_wp2_with (at_builtin; refine wpList_append_own _ rfl _ _ 35 rfl w.heap.size 51 i0 _ 2 32 Try.underlying35 hi0 hz0 hz1' hz2 rfl (by decide) _ _ _ rfl hOA.own ⟨wr.heap.size, 0, none⟩ 1 1 [.slice none 0 0, .bool false] rfl rfl (news_at hXN) (by simp [Value.oneCell']) (by unfold maxLen; omega) (by omega) (by simp; omega) ?_)
          intro v' w6 hown' hg' _
          have hR6 : OwnR w6 w.heap.size v' (us ++ [(.slice none 0 0, ⟨[], false⟩)]) := hOA.snoc (s0 := wr.heap.size + 1) ⟨rfl, .inl ⟨rfl, rfl⟩⟩ (by omega) (fun p hp b hb => by have := (row_lt (hOA.cells p hp) hb).2; simpa using this) hg' hown'
          have hTA := (hla.block _ (Array.getElem?_eq_some_iff.1 HT'.out).1 htb).trans HT'.out
          have hXA := (hla.block _ (Array.getElem?_eq_some_iff.1 HX'.out).1 (by omega)).trans HX'.out
          have hCA : OwnCol _ w.heap.size (.slice ac ps.length cc) ps := row_bk HO'.out hla hlt
          have T6 := blk_grown hTA hg' (ne_of_own (row_ne_block hOA.own hTA (by decide)))
          have X6 := blk_grown hXA hg' (ne_of_own (row_ne_block hOA.own hXA (by decide)))
          have C6 : OwnCol w6 w.heap.size (.slice ac ps.length cc) ps := row_off (n := w.heap.size) (b1 := none) hCA (Off.grown hg') (Nat.le_refl _) (nn' _) (row_ne hCA hOA.own (by decide))
          have R6 := (HR'.out.alloc (.cells #[.slice none 0 0, .bool false] 51)).grown hg' (fun i hi => by have := (row_lt hOA.own hi).1; omega)
          have K6 := (HB'.out.alloc (.cells #[.slice none 0 0, .bool false] 51)).grown hg' (fun i hi => (row_lt hOA.own hi).1)
          have HS6 : Hid (∀ p ∈ us ++ [(Value.slice none 0 0, (⟨[], false⟩ : R))], p.2.cells.length ≤ 4 ∧ ∀ x ∈ p.2.cells, Cx x) := fun p hp => by
            rcases List.mem_append.1 hp with hp | hp
            · exact HS'.out p hp
            · simp at hp
              subst hp
              exact ⟨by dsimp only; simp, fun x hx => by cases hx⟩
          have hul : (us ++ [(Value.slice none 0 0, (⟨[], false⟩ : R))]).length = us.length + 1 := by simp
          generalize us ++ [(Value.slice none 0 0, (⟨[], false⟩ : R))] = vs at hR6 HS6 hul
          have hul2 := Hid.intro hul
          rw [← hul] at hown'
          obtain ⟨vb, cb, rfl, _⟩ := row_form hown'
          have s3 : w6.cell? ⟨w1.heap.size, 3, none⟩ = some (.slice va us.length ca) := cellB T6
          have sf : w6.frozen? ⟨w1.heap.size, 3, none⟩ = false := freeB T6
          have HT7 : Hid ((w6.setCell ⟨w1.heap.size, 3, none⟩ (.slice vb vs.length cb)).heap[w1.heap.size]? = some (.cells #[.slice ac ps.length cc, .int .i64 hd, .int .i64 ft, .slice vb vs.length cb, .int .i64 gp] 37)) := setB T6 _
          have HX7 : Hid ((w6.setCell ⟨w1.heap.size, 3, none⟩ (.slice vb vs.length cb)).heap[w.heap.size]? = some (.cells #[.slice none 0 0, .int .i64 0, .int .i64 0, .slice none 0 0, .int .i64 0] 37)) := (Below.heap_setCell _ _ _ _ (by dsimp only; omega)).trans X6
          have HO7 : Hid (OwnCol (w6.setCell ⟨w1.heap.size, 3, none⟩ (.slice vb vs.length cb)) w.heap.size (.slice ac ps.length cc) ps) := row_set C6 T6 (by decide) _
          have HW7 := Hid.intro (hR6.set (p := 3) T6 (.slice vb vs.length cb))
          have HR7 := Hid.intro (R6.set (p := ⟨w1.heap.size, 3, none⟩) htr (.slice vb vs.length cb))
          have HB7 := Hid.intro (K6.set (p := ⟨w1.heap.size, 3, none⟩) (.inr htn) (.slice vb vs.length cb))
          clear hown' hg' hR6 hTA hXA hCA C6 hOA hXN hla T6 X6 R6 K6 HT' HO' HW' HR' HB' HX' HS' t3 hul
          go_wp2
          go_roundg (gk - 1)
          case measure => have := hul2.out; omega
          case rel => exact ⟨vb, cb, vs, by have := hul2.out; omega, by have := hul2.out; omega, HS6, HT7, HO7, HW7, HR7, HB7, HX7⟩
        · have h9' : ¬ (us.length : Int) ≤ 8 := by omega
          have HW9 : Hid (wr.ownsRow w.heap.size 51 2 (.slice va us.length ca) us.length (us.flatMap rowVs) ∧ ∀ p ∈ us, OwnC wr w.heap.size p.1 p.2.cells) := ⟨HW'.out.own, HW'.out.cells⟩
          obtain ⟨⟨d0, d1, d2, d3, d4⟩, _⟩ := fiveZ HT'.out
          obtain ⟨⟨x0, x1, x2, x3, x4⟩, y0, y1, y2, y3, y4⟩ := fiveZ HX'.out
          have k5 := st5_bk wr w.heap.size (.slice ac ps.length cc) (.int .i64 hd) (.int .i64 ft) (.slice va us.length ca) (.int .i64 gp)
          have HZ := own_st5' HO'.out HW9.out.1 HW9.out.2 HX'.out (.slice ac ps.length cc) (.int .i64 hd) (.int .i64 ft) (.slice va us.length ca) (.int .i64 gp)
          have HZ1 := Hid.intro HZ.1.at
          have HZ2 := Hid.intro (rows_at HZ.2.1 HZ.2.2 (fun p hp => (HS'.out p hp).2))
          have HZR : Hid (Rd (st5 wr w.heap.size (.slice ac ps.length cc) (.int .i64 hd) (.int .i64 ft) (.slice va us.length ca) (.int .i64 gp)) r (B + 3000)) := (HR'.out.keep (fun k hk => k5.block k (by have := HR'.out.lt; omega) (by omega))).mono (by omega)
          have HZB : Hid (Bk r w (st5 wr w.heap.size (.slice ac ps.length cc) (.int .i64 hd) (.int .i64 ft) (.slice va us.length ca) (.int .i64 gp))) := HB'.out.via k5 (Nat.le_refl _)
          clear HT' HX' HO' HW9 HB' HR' k5 HZ
          go_wp2
          exact bodyPost_ret (v := .agg #[.slice ac ps.length cc, .int .i64 hd, .int .i64 ft, .slice va us.length ca, .int .i64 gp]) (by simp [results, Try.results37, go_sem, x0, x1, x2, x3, x4]) rfl (AnyPost.mk'  ⟨by simp; omega, by dsimp only; omega, by dsimp only; omega, by dsimp only; omega, by dsimp only; omega, cells_of HS'.out, few_of HS'.out⟩ HZ1.out HZ2.out HZR.out HZB.out)
end Go.Proofs.Ytggmjiddadjilal
