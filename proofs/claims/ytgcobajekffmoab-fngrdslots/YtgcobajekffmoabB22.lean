/-
  PROVED HERE: the law FnGrdSlots returns true at every code that lies in memory.
-/
import Derived.Test.YtgcobajekffmoabB21
import Derived.Deep.DeepCutAuto
import Derived.Deep.RegionWith
import Derived.Deep.LoopGhost
namespace Go.Proofs.Ytgcobajekffmoab
open Go.RowKit Go.BigFrame

/-- what the law asks of each cell -/
structure Slo (t : T) (gs : List GC) (k : Nat) : Prop where
  small : Small (gs.getD k dG)
  ex : ∃ r j : Nat, (gs.getD k dG).row = r ∧ (gs.getD k dG).ins = j ∧ r < t.rows.length ∧ j < (t.rows.getD r dR).cells.length ∧ (gs.getD k dG).cols = ((t.rows.getD r dR).cells.getD j dC).c ∧ (gs.getD k dG).rows ≤ ((t.rows.getD r dR).cells.getD j dC).r ∧
    partOf t ((r : Int) + (gs.getD k dG).rows - 1) = partOf t r ∧ ((gs.getD k dG).rows < ((t.rows.getD r dR).cells.getD j dC).r → partOf t ((r : Int) + (gs.getD k dG).rows) ≠ partOf t r)
  find : ∀ r c : Int, (findTo (holdsB r c) gs == (k : Int)) = holdsB r c (gs.getD k dG)
theorem gOf_okB {t : T} (hD : Drawn t) : okB ⟨(gOf t).rows, (gOf t).cols, (gOf t).cells⟩ = tblB t := by
  cases h : tblB t with
  | false => rw [gOf_no h]; rfl
  | true =>
    rw [gOf_ok h]
    have hb := tblB_bounds h
    have hc : t.cols.length ≤ 8 := by
      simp only [tblB, colsB, Bool.and_eq_true, decide_eq_true_eq] at h
      omega
    exact gridOf_ok (low_of h hD) hb.1.1 hc
theorem slo_of {t : T} (hD : Drawn t) (h : tblB t = true) : (gOf t).cells.length ≤ 40 ∧ (∃ C : Nat, (gOf t).cols = C ∧ C ≤ 88 ∧ t.cols.length ≤ C) ∧ (gOf t).rows = t.rows.length ∧ t.rows.length ≤ 8 ∧ ∀ k, k < (gOf t).cells.length → Slo t (gOf t).cells k := by
  have hl := low_of h hD
  have h8 := hl.rows
  have h40 := grid_len hl t.rows.length
  have hc : t.cols.length ≤ 8 := by
    simp only [tblB, colsB, Bool.and_eq_true, decide_eq_true_eq] at h
    omega
  have hcb := cols_bounds hl hc
  rw [gOf_ok h]
  refine ⟨by show (gridTo t t.rows.length).length ≤ 40; omega, ⟨(colsOf (max 1 (t.cols.length : Int)) (gridOf t)).toNat, by show colsOf (max 1 (t.cols.length : Int)) (gridOf t) = _; omega, by omega, by omega⟩, rfl, h8, fun k hk => ⟨(stands_of hl (getD_mem' hk)).small h8, ?_, fun r c => find_slot (fun i hi => (laid_of hl hi).free) hk r c⟩⟩
  obtain ⟨r, j, hr, hj, e⟩ := (laid_of hl hk).ex
  have he := endOf_bounds hl hr
  have hsp := hl.span _ (getD_mem' (d := dR) hr) _ (getD_mem' (d := dC) hj)
  have e1 : ((gridOf t).getD k dG).row = r := by rw [e]; rfl
  have e2 : ((gridOf t).getD k dG).ins = j := by rw [e]; rfl
  have e3 : ((gridOf t).getD k dG).cols = ((t.rows.getD r dR).cells.getD j dC).c := by rw [e]; rfl
  have e4 : ((gridOf t).getD k dG).rows = min ((t.rows.getD r dR).cells.getD j dC).r (endOf t r - r) := by rw [e]; rfl
  refine ⟨r, j, e1, e2, hr, hj, e3, by rw [e4]; omega, ?_, ?_⟩
  · rw [e4]
    exact part_in h hr (by omega) (by omega)
  · rw [e4]
    intro hlt
    rw [show (r : Int) + min ((t.rows.getD r dR).cells.getD j dC).r (endOf t r - r) = endOf t r by omega]
    exact part_end h hr

set_option maxRecDepth 100000 in
set_option maxHeartbeats 4000000 in
theorem lawGrdSlots_walk (A : Option Addr) (len cap : Nat) (hlen : len ≤ 1048576) (w : World) (h : IsCode w A len cap) :
    Calls Try.prog 5 #[.slice A len cap] w fun e w' => e = .returned (.bool true) ∧ Below w.heap.size w w' := by
  have hl : ¬ (1048576 : Int) < (len : Int) := by omega
  have hmx : Try.prog.follows .mixedOrders = true := by kernel_rfl
  have HD := Hid.intro h
  clear h
  go_enter Try.func5, Try.ntmps5
  go_wp2_with fail
  refine (drawGrdOf_any _ _ _ _ HD.out).mono ?_
  rintro e w1 ⟨ac, ar, cc, cr, t, rfl, hD, hC1, hW1, hb1⟩
  have HS : Hid (St w w1.heap.size ac ar cc cr t (w1.alloc (.cells #[.slice ac t.cols.length cc, .int .i64 t.head, .int .i64 t.foot, .slice ar t.rows.length cr, .int .i64 t.gap] 26))) := ⟨hb1.alloc hb1.size _, TA.kept ⟨hC1, hW1⟩ (k_alloc (Below.refl _ _) _), newestB _ _⟩
  have HDr := Hid.intro hD
  clear hC1 hW1 hb1 hD HD
  go_wp2_with fail
  refine (implGrdOf ac ar cc cr t HDr.out _ HS.out.2.1.1 HS.out.2.1.2).mono ?_
  rintro e w2 ⟨vg, rfl, hO2, hb2⟩
  obtain ⟨ag, cg, rfl⟩ := own_slice hO2
  have hG2 := hO2.at (gOf_gok HDr.out)
  have hS2 := HS.out.kept hb2
  have HG : Hid (SGr w w1.heap.size w2.heap.size ac ar cc cr t ag cg (w2.alloc (.cells #[.int .i64 (gOf t).rows, .int .i64 (gOf t).cols, .slice ag (gOf t).cells.length cg] 39))) :=
    ⟨hS2.kept (k_alloc (Below.refl _ _) _), (hG2.base (by have := HS.out.1.size; omega)).kept (k_alloc (Below.refl _ _) _), newestB _ _⟩
  clear hO2 hb2 hG2 hS2 HS
  go_upto_region 5 with fail
  obtain ⟨W2, hW2⟩ : ∃ W2, w2.alloc (.cells #[.int .i64 (gOf t).rows, .int .i64 (gOf t).cols, .slice ag (gOf t).cells.length cg] 39) = W2 := ⟨_, rfl⟩
  rw [hW2] at HG ⊢
  clear hW2
  obtain ⟨z0, z1, z2, z3, z4⟩ := HG.out.1.at
  obtain ⟨y0, y1, y2⟩ := HG.out.at
  go_cut [22] (fun s W => s = .bool false ∧ Hid (SGr w w1.heap.size w2.heap.size ac ar cc cr t ag cg W))
  case first =>
    have HG0 := Hid.intro (HG.out.kept (k_drew (Below.refl _ _)))
    go_region_with (first
      | (go_at_call 16; refine (specGrdOf ac ar cc cr t HDr.out _ HG0.out.1.2.1.1 HG0.out.1.2.1.2).mono ?_; rintro e w3 ⟨vg3, rfl, hO3, hb3⟩; obtain ⟨a3, c3, rfl⟩ := own_slice hO3; have HY := Hid.intro (hO3.at (gOf_gok HDr.out)); have HG3 := Hid.intro (HG0.out.kept hb3); clear hO3 hb3; obtain ⟨p0, p1, p2⟩ := HG3.out.at)
      | (go_at_call 15; refine (pwGrid_any _ _ _ _ _ _ HG3.out.2.1 HY.out).mono ?_; rintro e w4 ⟨rfl, hb4⟩; have HG4 := Hid.intro (HG3.out.kept hb4); clear hb4))
    all_goals (go_wp2_with fail; go_meet; case rel => exact ⟨rfl, HG4⟩)
  case rest =>
    obtain ⟨rfl, HG1⟩ := hcut
    clear z0 z1 z2 z3 z4 y0 y1 y2 HG
    have HOK := Hid.intro (gOf_okB HDr.out)
    have KO := Hid.intro (specTblOk ac ar cc cr t wc HG1.out.1.2.1.1 HG1.out.1.2.1.2)
    obtain ⟨z0, z1, z2, z3, z4⟩ := HG1.out.1.at
    cases htk : tblB t with
    | false =>
      rw [htk] at KO HOK
      clear htk
      go_wp2_with fail
      refine KO.out.mono ?_
      rintro e w6 ⟨rfl, hb6⟩
      have HG6 := Hid.intro (HG1.out.kept hb6)
      clear hb6 z0 z1 z2 z3 z4
      obtain ⟨y0, y1, y2⟩ := HG6.out.at
      go_wp2_with fail
      refine (implGrdOk _ _ _ _ _ _ HG6.out.2.1).mono ?_
      rw [HOK.out]
      rintro e w7 ⟨rfl, hb7⟩
      have HG7 := Hid.intro (HG6.out.kept hb7)
      clear hb7
      go_wp2_with fail
      refine (pwOk_any _).mono ?_
      rintro e w5 ⟨rfl, rfl⟩
      go_wp2
      go_ret
      exact ⟨rfl, HG7.out.1.1⟩
    | true =>
      rw [htk] at KO HOK
      obtain ⟨h40, ⟨C, hgc, hC88, hCt⟩, hgr, h8, hF⟩ := slo_of HDr.out htk
      have HF := Hid.intro hF
      have HGC := Hid.intro hgc
      have HGR := Hid.intro hgr
      clear htk hF hgc hgr
      go_wp2_with fail
      refine KO.out.mono ?_
      rintro e w6 ⟨rfl, hb6⟩
      have HG6 := Hid.intro (HG1.out.kept hb6)
      clear hb6 z0 z1 z2 z3 z4 KO HG1
      obtain ⟨y0, y1, y2⟩ := HG6.out.at
      go_wp2_with fail
      refine (implGrdOk _ _ _ _ _ _ HG6.out.2.1).mono ?_
      rw [HOK.out]
      rintro e w7 ⟨rfl, hb7⟩
      have HG7 := Hid.intro (HG6.out.kept hb7)
      clear hb7 y0 y1 y2 HG6 HOK
      obtain ⟨z0, z1, z2, z3, z4⟩ := HG7.out.1.at
      obtain ⟨y0, y1, y2⟩ := HG7.out.at
      rw [HGC.out] at y1
      have hct : (C < t.cols.length) = False := by simp; omega
      go_wp2_with fail
      clear y0 y1 y2 z0 z1 z2 z3 z4 hct
      go_loopw [5] (fun i W => ∃ k : Nat, i = .int .i64 k ∧ k ≤ (gOf t).cells.length ∧ Hid (SGr w w1.heap.size w2.heap.size ac ar cc cr t ag cg W)) (fun i _ => (gOf t).cells.length - (intOf i).toNat)
      case atStart => exact ⟨0, rfl, Nat.zero_le _, HG7⟩
      case round =>
        obtain ⟨k, rfl, hk, HG⟩ := hrel
        obtain ⟨y0, y1, y2⟩ := HG.out.at
        by_cases hlt : k < (gOf t).cells.length
        case neg =>
          obtain rfl : k = (gOf t).cells.length := by omega
          go_wp2
          go_ret
          exact ⟨rfl, HG.out.1.1⟩
        obtain ⟨b, off, cap', e', hc1, hc2, hbl, hx, _⟩ := At.get HG.out.2.1 hlt
        simp only [Value.slice.injEq, true_and] at e'
        obtain ⟨rfl, rfl⟩ := e'
        unfold maxLen at hc2
        have hX := HF.out k hlt
        obtain ⟨⟨s1, s2, s3, s4, s5⟩, hex, hfd⟩ := hX
        generalize (gOf t).cells.getD k dG = x at hx s1 s2 s3 s4 s5 hex hfd
        obtain ⟨rn, jn, hxr, hxj, hrn, hjn, hxc, hxs, hp1, hp2⟩ := hex
        have HXR := Hid.intro hxr
        have HXJ := Hid.intro hxj
        have HXC := Hid.intro hxc
        have HFD := Hid.intro hfd
        have HP1 := Hid.intro hp1
        have HP2 := Hid.intro hp2
        obtain ⟨x0, x1, x2, x3, x4⟩ := hx
        clear hfd hp1 hp2 hxr hxj hxc
        go_upto_region 15 with fail
        obtain ⟨W3, hW3⟩ : ∃ W3, wr.alloc (.cells #[.int .i64 x.row, .int .i64 x.col, .int .i64 x.rows, .int .i64 x.cols, .int .i64 x.ins] 45) = W3 := ⟨_, rfl⟩
        have HC : Hid (SCe w w1.heap.size w2.heap.size wr.heap.size ac ar cc cr t (some ⟨b, off, none⟩) cg x W3) := by rw [← hW3]; exact ⟨HG.out.kept (k_alloc (Below.refl _ _) _), newestB _ _⟩
        rw [hW3]
        clear hW3
        generalize wr.heap.size = cb at HC ⊢
        clear HG y0 y1 y2 x0 x1 x2 x3 x4 hbl
        obtain ⟨q0, q1, q2, q3, q4⟩ := HC.out.at
        obtain ⟨z0, z1, z2, z3, z4⟩ := HC.out.1.1.at
        obtain ⟨rb, roff, rcap, re, rc1, rc2, rbl, u, hu0, hu1, hu⟩ := At.get HC.out.1.1.2.1.2 hrn
        simp only [Value.slice.injEq, true_and] at re
        obtain ⟨rfl, rfl⟩ := re
        obtain ⟨qb, qoff, qcap, qe, qc1, qc2, qbl, hv, _⟩ := At.get hu hjn
        subst qe
        generalize t.rows.getD rn dR = row at hu1 hv qc1 hjn hxs HXC HP2 hu hu0
        generalize row.cells.getD jn dC = y at hv hxs HXC HP2
        rw [HXR.out] at q0
        rw [HXJ.out] at q4
        rw [HXC.out] at q3
        obtain ⟨v0, v1, v2, v3, v4, v5, v6, v7, v8, v9, v10⟩ := hv
        have hcb : cb < W3.heap.size := (Array.getElem?_eq_some_iff.1 HC.out.2).1
        have htb : w1.heap.size < W3.heap.size := (Array.getElem?_eq_some_iff.1 HC.out.1.1.2.2).1
        unfold maxLen at rc2 qc2
        clear hu hu1
        go_region
        obtain ⟨W4, hW4⟩ : ∃ W4, (W3.alloc (.cells #[.string y.s, .int .i64 y.c, .int .i64 y.r, .int .i64 y.a1, .int .i64 y.b1, .int .i64 y.a2, .int .i64 y.b2, .int .i64 y.a3, .int .i64 y.b3, .int .i64 y.a4, .int .i64 y.b4] 49)).drew = W4 := ⟨_, rfl⟩
        have HC4 : Hid (SCe w w1.heap.size w2.heap.size cb ac (some ⟨rb, roff, none⟩) cc cr t (some ⟨b, off, none⟩) cg x W4) := by rw [← hW4]; exact HC.out.kept (k_drew (k_alloc (Below.refl _ _) _))
        have HX4 : Hid (W4.heap[W3.heap.size]? = some (.cells #[.string y.s, .int .i64 y.c, .int .i64 y.r, .int .i64 y.a1, .int .i64 y.b1, .int .i64 y.a2, .int .i64 y.b2, .int .i64 y.a3, .int .i64 y.b3, .int .i64 y.a4, .int .i64 y.b4] 49)) := by rw [← hW4]; exact newestB _ _
        rw [hW4]
        clear hW4
        generalize W3.heap.size = xb at HX4 ⊢
        clear HC q0 q1 q2 q3 q4 z0 z1 z2 z3 z4 v0 v1 v2 v3 v4 v5 v6 v7 v8 v9 v10 hu0 hcb htb qbl
        go_upto_region 16 with fail
        go_cut [113] (fun s W => s = .bool false ∧ Hid (SCe w w1.heap.size w2.heap.size cb ac (some ⟨rb, roff, none⟩) cc cr t (some ⟨b, off, none⟩) cg x W))
        case first => as_aux_lemma =>
          obtain ⟨q0, q1, q2, q3, q4⟩ := HC4.out.at
          obtain ⟨z0, z1, z2, z3, z4⟩ := HC4.out.1.1.at
          rw [HXR.out] at q0
          rw [HXC.out] at q3
          have hcb : cb < W4.heap.size := (Array.getElem?_eq_some_iff.1 HC4.out.2).1
          have htb : w1.heap.size < W4.heap.size := (Array.getElem?_eq_some_iff.1 HC4.out.1.1.2.2).1
          have hxb : xb < W4.heap.size := (Array.getElem?_eq_some_iff.1 HX4.out).1
          have hne := bw_some W4
          have g0 := bw_cell (a := ⟨cb, 0, none⟩) hcb q0
          have g2 := bw_cell (a := ⟨cb, 2, none⟩) hcb q2
          have g3 := bw_cell (a := ⟨cb, 3, none⟩) hcb q3
          have f1 := bw_cell (a := ⟨xb, 1, none⟩) (v := .int .i64 y.c) hxb (cellB HX4.out)
          have f2 := bw_cell (a := ⟨xb, 2, none⟩) (v := .int .i64 y.r) hxb (cellB HX4.out)
          have b0 := bw_cell (a := ⟨w1.heap.size, 0, none⟩) htb z0
          have b1 := bw_cell (a := ⟨w1.heap.size, 1, none⟩) htb z1
          have b2 := bw_cell (a := ⟨w1.heap.size, 2, none⟩) htb z2
          have b3 := bw_cell (a := ⟨w1.heap.size, 3, none⟩) htb z3
          have b4 := bw_cell (a := ⟨w1.heap.size, 4, none⟩) htb z4
          have KP := Hid.intro (fun (p : BW W4) (q : Int) => implTblPart ac (some ⟨rb, roff, none⟩) cc cr t q p.u (HC4.out.1.1.2.1.1.kept p.h) (HC4.out.1.1.2.1.2.kept p.h))
          have e1 : (y.c != y.c) = false := by simp
          have e2 : decide (y.r < x.rows) = false := by simp; omega
          have e3 : (partOf t ((rn : Int) + x.rows - 1) != partOf t rn) = false := by simp [HP1.out]
          clear q0 q1 q2 q3 q4 z0 z1 z2 z3 z4 HX4
          by_cases hxy : x.rows < y.r
          case pos =>
            have e4 : decide (x.rows < y.r) = true := by simp [hxy]
            have e5 : (partOf t ((rn : Int) + x.rows) == partOf t rn) = false := by simpa using HP2.out hxy
            clear hxy HP1 HP2
            refine wp_region_quiet_below hmx (by kernel_rfl) ?_
            repeat (go_big_quiet_step (refine bw_of (KP.out _ _)))
            refine wpQuiet_nil ?_
            intro W5 hw'
            obtain ⟨⟨Wx, hW5⟩, hw''⟩ := hw'
            subst hw''
            go_wp2_with fail
            go_meet
            case rel => exact ⟨rfl, HC4.out.kept hW5⟩
          case neg =>
            have e4 : decide (x.rows < y.r) = false := by simp; omega
            clear hxy HP1 HP2
            refine wp_region_quiet_below hmx (by kernel_rfl) ?_
            repeat (go_big_quiet_step (refine bw_of (KP.out _ _)))
            refine wpQuiet_nil ?_
            intro W5 hw'
            obtain ⟨⟨Wx, hW5⟩, hw''⟩ := hw'
            subst hw''
            go_wp2_with fail
            go_meet
            case rel => exact ⟨rfl, HC4.out.kept hW5⟩
        case rest =>
          obtain ⟨rfl, HC5⟩ := hcut
          clear HX4 HC4 HP1 HP2 HXC hxs
          go_wp2_with fail
          go_loopw [8] (fun s W => ∃ r : Nat, s = .int .i64 r ∧ r ≤ t.rows.length ∧ Hid (SCe w w1.heap.size w2.heap.size cb ac (some ⟨rb, roff, none⟩) cc cr t (some ⟨b, off, none⟩) cg x W)) (fun s _ => t.rows.length - (intOf s).toNat)
          case atStart => exact ⟨0, rfl, Nat.zero_le _, HC5⟩
          case round =>
            obtain ⟨r, rfl, hr, HC⟩ := hrel
            obtain ⟨y0, y1, y2⟩ := HC.out.1.at
            rw [HGR.out] at y0
            rw [HGC.out] at y1
            by_cases hrl : r < t.rows.length
            case neg =>
              obtain rfl : r = t.rows.length := by omega
              go_wp2
              go_roundw
              case rel => exact ⟨k + 1, by go_num, by omega, HC.out.1⟩
              case measure => simp [intOf]; omega
            go_wp2_with fail
            go_loopw [9] (fun s W => ∃ c : Nat, s = .int .i64 c ∧ c ≤ C ∧ Hid (SCe w w1.heap.size w2.heap.size cb ac (some ⟨rb, roff, none⟩) cc cr t (some ⟨b, off, none⟩) cg x W)) (fun s _ => C - (intOf s).toNat)
            case atStart => exact ⟨0, rfl, Nat.zero_le _, HC⟩
            case round => as_aux_lemma =>
              clear HC y0 y1 y2
              obtain ⟨c, rfl, hc, HC⟩ := hrel
              obtain ⟨y0, y1, y2⟩ := HC.out.1.at
              rw [HGC.out] at y1
              by_cases hcl : c < C
              case neg =>
                obtain rfl : c = C := by omega
                go_wp2
                go_roundw
                case rel => exact ⟨r + 1, by go_num, by omega, HC⟩
                case measure => simp [intOf]; omega
              obtain ⟨q0, q1, q2, q3, q4⟩ := HC.out.at
              have HVB : Hid (holdsB (r : Int) (c : Int) x = (decide (x.row ≤ r) && (decide ((r : Int) < x.row + x.rows) && (decide (x.col ≤ c) && decide ((c : Int) < x.col + x.cols))))) := by
                rw [Hid, Bool.eq_iff_iff]
                simp only [holdsB, amongB, Bool.and_eq_true, decide_eq_true_eq]
                omega
              go_upto_region 24 with fail
              go_cut [10] (fun s W => s = .bool (holdsB (r : Int) (c : Int) x) ∧ W = wr)
              case first => as_aux_lemma =>
                by_cases c1 : x.row ≤ r
                case neg =>
                  have HV : Hid (holdsB (r : Int) (c : Int) x = false) := Hid.intro (by rw [HVB.out]; simp; omega)
                  go_wp2_with fail
                  go_meet
                  case rel => exact ⟨vB HV.out.symm, rfl⟩
                by_cases c2 : (r : Int) < x.row + x.rows
                case neg =>
                  have HV : Hid (holdsB (r : Int) (c : Int) x = false) := Hid.intro (by rw [HVB.out]; simp; omega)
                  go_wp2_with fail
                  go_meet
                  case rel => exact ⟨vB HV.out.symm, rfl⟩
                by_cases c3 : x.col ≤ c
                case neg =>
                  have HV : Hid (holdsB (r : Int) (c : Int) x = false) := Hid.intro (by rw [HVB.out]; simp; omega)
                  go_wp2_with fail
                  go_meet
                  case rel => exact ⟨vB HV.out.symm, rfl⟩
                by_cases c4 : (c : Int) < x.col + x.cols
                case neg =>
                  have HV : Hid (holdsB (r : Int) (c : Int) x = false) := Hid.intro (by rw [HVB.out]; simp; omega)
                  go_wp2_with fail
                  go_meet
                  case rel => exact ⟨vB HV.out.symm, rfl⟩
                have HV : Hid (holdsB (r : Int) (c : Int) x = true) := Hid.intro (by rw [HVB.out]; simp; omega)
                go_wp2_with fail
                go_meet
                case rel => exact ⟨vB HV.out.symm, rfl⟩
              case rest => as_aux_lemma =>
                obtain ⟨rfl, rfl⟩ := hcut
                have HFc := HFD.out r c
                clear HVB q0 q1 q2 q3 q4
                have hi1 : I64 (r : Int) := by unfold I64; omega
                have hi2 : I64 (c : Int) := by unfold I64; omega
                have KA := Hid.intro (fun (R D : Int) => implGrdAt R D _ _ _ _ _ hi1 hi2 wc HC.out.1.2.1)
                clear hi1 hi2
                go_wp2_with fail
                refine (KA.out _ _).mono ?_
                rintro e w8 ⟨rfl, hb8⟩
                have HC8 := Hid.intro (HC.out.kept hb8)
                clear hb8 KA HC
                generalize findTo (holdsB (r : Int) (c : Int)) (gOf t).cells = F at HFc ⊢
                generalize holdsB (r : Int) (c : Int) x = hb at HFc ⊢
                cases hb with
                | true =>
                  go_wp2
                  go_roundw
                  case rel => exact ⟨c + 1, by go_num, by omega, HC8⟩
                  case measure => simp [intOf]; omega
                | false =>
                  go_wp2
                  go_roundw
                  case rel => exact ⟨c + 1, by go_num, by omega, HC8⟩
                  case measure => simp [intOf]; omega

theorem lawGrdSlots (a : Option Addr) (len cap : Nat) (w : World) (h : IsCode w a len cap) :
    Calls Try.prog 5 #[.slice a len cap] w fun e w' => e = .returned (.bool true) ∧ Below w.heap.size w w' := by
  by_cases hl : len ≤ 1048576
  · exact lawGrdSlots_walk a len cap hl w h
  · have hl' : (1048576 : Int) < (len : Int) := by omega
    clear h
    go_enter Try.func5, Try.ntmps5
    go_wp2
    go_ret
    exact ⟨rfl, Below.refl _ _⟩
end Go.Proofs.Ytgcobajekffmoab
