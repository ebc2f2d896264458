/-
  PROVED HERE: what the model's l3Of answers at a drawn table that is ok: its cells at their places; nothing that was in memory is turned.
-/
import Derived.Test.YtggmjiddadjilalB16
import Derived.Test.YtggmjiddadjilalB5
import Derived.Deep.LoopGhost
import Derived.Deep.DeepCutAuto
namespace Go.Proofs.Ytggmjiddadjilal
open Go.RowKit Go.BigFrame

set_option maxRecDepth 100000 in
set_option maxHeartbeats 4000000 in
theorem l3Of_any (ac ar : Option Addr) (cc cr : Nat) (t : T) (hl : Low t) (w : World) {z : Nat} (hr : RowsAt w z (.slice ar t.rows.length cr) t.rows) :
    Calls Try.prog 42 #[.agg #[.slice ac t.cols.length cc, .int .i64 t.head, .int .i64 t.foot, .slice ar t.rows.length cr, .int .i64 t.gap]] w fun e w' => ∃ vg, e = .returned (.agg #[.int .i64 (t.rows.length : Int), .int .i64 (colsOf (max 1 (t.cols.length : Int)) (gridOf t)), vg]) ∧ OwnG w' w.heap.size vg (gridOf t) ∧ Below w.heap.size w w' := by
  have hmx : Try.prog.follows .mixedOrders = true := by kernel_rfl
  have hn8 := hl.rows
  have HL := Hid.intro hl
  have HR := Hid.intro hr
  clear hl hr
  go_enter Try.func42, Try.ntmps42
  go_wp2_with fail
  obtain ⟨W0, hW0⟩ : ∃ W0, (w.alloc (.cells #[.slice ac t.cols.length cc, .int .i64 t.head, .int .i64 t.foot, .slice ar t.rows.length cr, .int .i64 t.gap] 37)).alloc (.cells #[.int .i64 0, .int .i64 0, .slice none 0 0] 42) = W0 := ⟨_, rfl⟩
  have K0 : Below w.heap.size w W0 := by rw [← hW0]; exact k_alloc (k_alloc (Below.refl _ _) _) _
  have hz0 : W0.heap.size = w.heap.size + 2 := by rw [← hW0]; simp
  have T0 : W0.heap[w.heap.size]? = some (.cells #[.slice ac t.cols.length cc, .int .i64 t.head, .int .i64 t.foot, .slice ar t.rows.length cr, .int .i64 t.gap] 37) := by rw [← hW0]; exact (Below.heap_alloc _ _ _ (by simp)).trans (newestB _ _)
  have X0 : W0.heap[w.heap.size + 1]? = some (.cells #[.int .i64 0, .int .i64 0, .slice none 0 0] 42) := by
    have := newestB (w.alloc (.cells #[.slice ac t.cols.length cc, .int .i64 t.head, .int .i64 t.foot, .slice ar t.rows.length cr, .int .i64 t.gap] 37)) (.cells #[.int .i64 0, .int .i64 0, .slice none 0 0] 42)
    rw [hW0] at this
    simpa using this
  rw [hW0]
  clear hW0
  refine wp_region_inv2 (ofJ w.heap.size W0 ac ar cc cr t (fun v3 v8 v9 v10 v11 v12 v13 v14 v15 => ⟨#[.agg #[.slice ac t.cols.length cc, .int .i64 t.head, .int .i64 t.foot, .slice ar t.rows.length cr, .int .i64 t.gap], .pointer (some ⟨w.heap.size, 0, none⟩), .pointer (some ⟨w.heap.size + 1, 0, none⟩), v3, undef, undef, undef, undef, v8, v9, v10, v11, v12, v13, v14, v15, undef, undef, undef, undef, undef, undef, undef, undef, undef, undef, undef, undef, undef, undef, undef, undef, undef, undef, undef, undef, undef, undef, undef, undef, undef, undef, undef, undef, undef, undef, undef, undef, undef, undef, undef, undef, undef, undef, undef, undef, undef, undef, undef, undef, undef, undef, undef, undef, undef, undef, undef, undef, undef, undef, undef, undef, undef, undef, undef, undef, undef, undef, undef, undef, undef, undef, undef, undef, undef, undef, undef, undef, undef, undef, undef, undef, undef, undef], []⟩)) (by kernel_rfl) (by kernel_rfl) ?hs ?hd ?h0
  case h0 => exact ⟨_, _, _, _, _, _, _, _, _, rfl, ⟨(fun h => by cases h), (fun h => by cases h), (fun h => by cases h), (fun h => by cases h), (fun h => by cases h), (fun h => by cases h), (fun h => by cases h), (fun h => by cases h), (fun h => by cases h), (fun h => by cases h), (fun h => by cases h), k_drew (Below.refl _ _)⟩⟩
  case hs =>
    rename_i K1 hK1
    clear hK1
    intro L a W i o hJ _ ho hLi haft K hK
    obtain ⟨v3, v8, v9, v10, v11, v12, v13, v14, v15, ha, J⟩ := hJ
    dsimp only at ha
    subst ha
    have hi : i < 10 := by
      have := (Array.getElem?_eq_some_iff.1 ho).1
      simpa using this
    rcases (by omega : i = 0 ∨ i = 1 ∨ i = 2 ∨ i = 3 ∨ i = 4 ∨ i = 5 ∨ i = 6 ∨ i = 7 ∨ i = 8 ∨ i = 9) with rfl | rfl | rfl | rfl | rfl | rfl | rfl | rfl | rfl | rfl
    all_goals
      simp only [List.getElem?_toArray, List.getElem?_cons_zero, List.getElem?_cons_succ, Option.some.injEq] at ho
      subst ho
      clear hi
    · skip
      go_simp
      exact hK _ _ ⟨_, _, _, _, _, _, _, _, _, rfl, ⟨(fun _ => rfl), (fun h => J.f1 (un h)), (fun h => J.f2 (un h)), (fun h => J.f3 (un h)), (fun h => J.f4 (un h)), (fun h => J.f5 (un h)), (fun h => J.f6 (un h)), (fun h => J.f7 (un h)), (fun h => by obtain ⟨g, e, h1, h2⟩ := J.f8 (un h); exact ⟨g, e, h1, fun h3 => h2 (by rwa [upd_ne rfl] at h3)⟩), (fun h => J.f9 (un h)), (fun h => by rw [upd_ne rfl] at h ⊢; exact J.o9 h), J.bk⟩⟩
    · skip
      obtain rfl := J.f0 (haft ⟨0, .data⟩ (by simp) rfl)
      have hc := blk_kept T0 J.bk
      obtain ⟨⟨_, _, _, c3, _⟩, _⟩ := fiveT hc
      go_simp
      exact hK _ _ ⟨_, _, _, _, _, _, _, _, _, rfl, ⟨(fun h => J.f0 (un h)), (fun _ => rfl), (fun h => J.f2 (un h)), (fun h => J.f3 (un h)), (fun h => J.f4 (un h)), (fun h => J.f5 (un h)), (fun h => J.f6 (un h)), (fun h => J.f7 (un h)), (fun h => by obtain ⟨g, e, h1, h2⟩ := J.f8 (un h); exact ⟨g, e, h1, fun h3 => h2 (by rwa [upd_ne rfl] at h3)⟩), (fun h => J.f9 (un h)), (fun h => by rw [upd_ne rfl] at h ⊢; exact J.o9 h), J.bk⟩⟩
    · skip
      obtain rfl := J.f1 (haft ⟨1, .data⟩ (by simp) rfl)
      go_simp
      exact hK _ _ ⟨_, _, _, _, _, _, _, _, _, rfl, ⟨(fun h => J.f0 (un h)), (fun h => J.f1 (un h)), (fun _ => rfl), (fun h => J.f3 (un h)), (fun h => J.f4 (un h)), (fun h => J.f5 (un h)), (fun h => J.f6 (un h)), (fun h => J.f7 (un h)), (fun h => by obtain ⟨g, e, h1, h2⟩ := J.f8 (un h); exact ⟨g, e, h1, fun h3 => h2 (by rwa [upd_ne rfl] at h3)⟩), (fun h => J.f9 (un h)), (fun h => by rw [upd_ne rfl] at h ⊢; exact J.o9 h), J.bk⟩⟩
    · skip
      go_simp
      exact hK _ _ ⟨_, _, _, _, _, _, _, _, _, rfl, ⟨(fun h => J.f0 (un h)), (fun h => J.f1 (un h)), (fun h => J.f2 (un h)), (fun _ => rfl), (fun h => J.f4 (un h)), (fun h => J.f5 (un h)), (fun h => J.f6 (un h)), (fun h => J.f7 (un h)), (fun h => by obtain ⟨g, e, h1, h2⟩ := J.f8 (un h); exact ⟨g, e, h1, fun h3 => h2 (by rwa [upd_ne rfl] at h3)⟩), (fun h => J.f9 (un h)), (fun h => by rw [upd_ne rfl] at h ⊢; exact J.o9 h), J.bk⟩⟩
    · skip
      obtain rfl := J.f3 (haft ⟨3, .data⟩ (by simp) rfl)
      have hc := blk_kept T0 J.bk
      obtain ⟨⟨c0, _⟩, _⟩ := fiveT hc
      go_simp
      exact hK _ _ ⟨_, _, _, _, _, _, _, _, _, rfl, ⟨(fun h => J.f0 (un h)), (fun h => J.f1 (un h)), (fun h => J.f2 (un h)), (fun h => J.f3 (un h)), (fun _ => rfl), (fun h => J.f5 (un h)), (fun h => J.f6 (un h)), (fun h => J.f7 (un h)), (fun h => by obtain ⟨g, e, h1, h2⟩ := J.f8 (un h); exact ⟨g, e, h1, fun h3 => h2 (by rwa [upd_ne rfl] at h3)⟩), (fun h => J.f9 (un h)), (fun h => by rw [upd_ne rfl] at h ⊢; exact J.o9 h), J.bk⟩⟩
    · skip
      obtain rfl := J.f4 (haft ⟨4, .data⟩ (by simp) rfl)
      go_simp
      exact hK _ _ ⟨_, _, _, _, _, _, _, _, _, rfl, ⟨(fun h => J.f0 (un h)), (fun h => J.f1 (un h)), (fun h => J.f2 (un h)), (fun h => J.f3 (un h)), (fun h => J.f4 (un h)), (fun _ => rfl), (fun h => J.f6 (un h)), (fun h => J.f7 (un h)), (fun h => by obtain ⟨g, e, h1, h2⟩ := J.f8 (un h); exact ⟨g, e, h1, fun h3 => h2 (by rwa [upd_ne rfl] at h3)⟩), (fun h => J.f9 (un h)), (fun h => by rw [upd_ne rfl] at h ⊢; exact J.o9 h), J.bk⟩⟩
    · skip
      obtain rfl := J.f5 (haft ⟨5, .data⟩ (by simp) rfl)
      go_simp
      go_wp2_with (go_at_call 59; refine (l1Max_any _ _ _).mono ?_; rintro e W2 ⟨rfl, rfl⟩)
      exact ⟨_, _, _, _, _, _, _, _, _, rfl, ⟨(fun h => J.f0 (un h)), (fun h => J.f1 (un h)), (fun h => J.f2 (un h)), (fun h => J.f3 (un h)), (fun h => J.f4 (un h)), (fun h => J.f5 (un h)), (fun _ => rfl), (fun h => J.f7 (un h)), (fun h => by obtain ⟨g, e, h1, h2⟩ := J.f8 (un h); exact ⟨g, e, h1, fun h3 => h2 (by rwa [upd_ne rfl] at h3)⟩), (fun h => J.f9 (un h)), (fun h => by rw [upd_ne rfl] at h ⊢; exact J.o9 h), J.bk⟩⟩
    · skip
      obtain rfl := J.f2 (haft ⟨2, .data⟩ (by simp) rfl)
      obtain rfl := J.f6 (haft ⟨6, .data⟩ (by simp) rfl)
      go_simp
      exact hK _ _ ⟨_, _, _, _, _, _, _, _, _, rfl, ⟨(fun h => J.f0 (un h)), (fun h => J.f1 (un h)), (fun h => J.f2 (un h)), (fun h => J.f3 (un h)), (fun h => J.f4 (un h)), (fun h => J.f5 (un h)), (fun h => J.f6 (un h)), (fun _ => rfl), (fun h => by obtain ⟨g, e, h1, h2⟩ := J.f8 (un h); exact ⟨g, e, h1, fun h3 => h2 (by rwa [upd_ne rfl] at h3)⟩), (fun h => J.f9 (un h)), (fun h => by rw [upd_ne rfl] at h ⊢; exact J.o9 h), J.bk⟩⟩
    · skip
      have hsz := J.bk.size
      go_simp
      exact hK _ _ ⟨_, _, _, _, _, _, _, _, _, rfl, ⟨(fun h => J.f0 (un h)), (fun h => J.f1 (un h)), (fun h => J.f2 (un h)), (fun h => J.f3 (un h)), (fun h => J.f4 (un h)), (fun h => J.f5 (un h)), (fun h => J.f6 (un h)), (fun h => J.f7 (un h)), (fun _ => ⟨W.heap.size, rfl, hsz, fun _ => newestB _ _⟩), (fun h => by have := J.o9 (un h); rw [hLi] at this; cases this), (fun _ => upd_self), k_alloc J.bk _⟩⟩
    · skip
      obtain ⟨g, rfl, hgn, hg⟩ := J.f8 (haft ⟨8, .data⟩ (by simp) rfl)
      obtain rfl := J.f7 (haft ⟨7, .data⟩ (by simp) rfl)
      have hg2 := hg hLi
      obtain ⟨⟨c0, c1, c2⟩, e0, e1, e2⟩ := threeZ hg2
      go_simp
      have h3 : (((W.setCell ⟨g, 0, none⟩ (.int .i64 (t.rows.length : Int))).setCell ⟨g, 1, none⟩ (.int .i64 (max 1 (t.cols.length : Int)))).setCell ⟨g, 2, none⟩ (.slice none 0 0)).heap[g]? = some (.cells #[.int .i64 (t.rows.length : Int), .int .i64 (max 1 (t.cols.length : Int)), .slice none 0 0] 42) := (setB (setB (setB hg2 (p := 0) _) (p := 1) _) (p := 2) _).trans (by simp)
      exact hK _ _ ⟨_, _, _, _, _, _, _, _, _, rfl, ⟨(fun h => J.f0 (un h)), (fun h => J.f1 (un h)), (fun h => J.f2 (un h)), (fun h => J.f3 (un h)), (fun h => J.f4 (un h)), (fun h => J.f5 (un h)), (fun h => J.f6 (un h)), (fun h => J.f7 (un h)), (fun h => ⟨g, rfl, hgn, fun h3 => by rw [upd_self] at h3; cases h3⟩), (fun _ => ⟨g, rfl, hgn, h3⟩), (fun _ => by rw [upd_ne rfl]; exact (haft ⟨8, .data⟩ (by simp) rfl)), k_set (k_set (k_set J.bk (p := ⟨g, 0, none⟩) hgn _) (p := ⟨g, 1, none⟩) hgn _) (p := ⟨g, 2, none⟩) hgn _⟩⟩
  case hd =>
    rename_i K1 hK1
    intro L a W hJ hall
    obtain ⟨v3, v8, v9, v10, v11, v12, v13, v14, v15, ha, J⟩ := hJ
    dsimp only at ha
    subst ha
    obtain ⟨gb, rfl, hgb, hG⟩ := J.f9 (hall 9 (by simp))
    have hbk := J.bk
    clear J hall
    have HS : Hid (SG w gb ac ar cc cr t (max 1 (t.cols.length : Int)) (.slice none 0 0) [] W) := ⟨K0.trans (hbk.mono (by omega)), blk_kept T0 hbk, blk_kept X0 hbk, hG, ⟨rfl, .inl ⟨rfl, rfl⟩⟩⟩
    have hgz : w.heap.size + 2 ≤ gb := by omega
    clear hbk hG T0 X0 K0
    refine hK1 _ _ ?_
    clear hK1
    obtain ⟨⟨t0, t1, t2, t3, t4⟩, _⟩ := fiveT HS.out.tbl
    go_wp2_with fail
    clear t0 t1 t2 t3 t4
    go_loopg [4, 5, 6, 7] t.rows.length (fun kx s4 _ _ _ W => ∃ (r : Nat) (C : Int) (vg : Value), s4 = .int .i64 r ∧ r ≤ t.rows.length ∧ t.rows.length - r ≤ kx ∧ Hid (C = colsOf (max 1 (t.cols.length : Int)) (gridTo t r)) ∧ Hid (SG w gb ac ar cc cr t C vg (gridTo t r) W))
    case atStart => exact ⟨0, _, _, rfl, by omega, by omega, rfl, HS⟩
    case round =>
      obtain ⟨r, C, vg, rfl, hr, hkx, HCC, HS1⟩ := hrel
      obtain ⟨⟨t0, t1, t2, t3, t4⟩, _⟩ := fiveT HS1.out.tbl
      clear HS
      by_cases hrl : r < t.rows.length
      · have hrl' : (r : Int) < (t.rows.length : Int) := by omega
        obtain ⟨cs, ecs⟩ : ∃ cs, (t.rows.getD r dR).cells = cs := ⟨_, rfl⟩
        have HE := Hid.intro ecs
        have HP0 := Hid.intro (part_grid HL.out r hr)
        clear ecs
        go_wp2_with fail
        clear t0 t1 t2 t3 t4
        go_loopg [5, 6, 7] cs.length (fun kx s5 _ _ W => ∃ (i : Nat) (C : Int) (vg : Value), s5 = .int .i64 i ∧ i ≤ cs.length ∧ cs.length - i ≤ kx ∧ Hid (C = colsOf (max 1 (t.cols.length : Int)) (rowTo (endOf t r) r cs (gridTo t r) i)) ∧ Hid (SG w gb ac ar cc cr t C vg (rowTo (endOf t r) r cs (gridTo t r) i) W))
        case atStart => exact ⟨0, C, vg, rfl, by omega, by omega, HCC, HS1⟩
        case round =>
          obtain ⟨i, C2, vg2, rfl, hi, hkx2, HC2, HS2⟩ := hrel
          obtain ⟨wp, hwp⟩ : ∃ wp, wp = wr := ⟨_, rfl⟩
          subst hwp
          obtain ⟨⟨t0, t1, t2, t3, t4⟩, _⟩ := fiveT HS2.out.tbl
          clear HS1 HCC
          obtain ⟨g, off, cap', e', hc1, hc2, hbl, u, hu, hwh, hcs⟩ := At.get (HR.out.kept HS2.out.bel) hrl
          simp only [Value.slice.injEq, true_and] at e'
          obtain ⟨rfl, rfl⟩ := e'
          unfold maxLen at hc2
          rw [HE.out] at hcs
          obtain ⟨ca, ccp, rfl, hcm⟩ := At.form hcs
          unfold maxLen at hcm
          by_cases hil : i < cs.length
          · have hil' : (i : Int) < (cs.length : Int) := by omega
            obtain ⟨g2, off2, cap2, e2, hd1, hd2, hbl2, hx, hxs⟩ := At.get hcs hil
            simp only [Value.slice.injEq, true_and] at e2
            obtain ⟨rfl, rfl⟩ := e2
            unfold maxLen at hd2
            have hP := part_row HL.out hrl HP0.out i (by rw [HE.out]; exact hi)
            rw [HE.out] at hP
            have hN := hP.next HL.out hrl (by rw [HE.out]; exact hil)
            rw [HE.out] at hN
            have hxb := HL.out.span _ (getD_mem' (d := dR) hrl) (cs.getD i dC) (by rw [HE.out]; exact getD_mem' hil)
            have heb := endOf_bounds HL.out hrl
            obtain ⟨x, ex⟩ : ∃ x, cs.getD i dC = x := ⟨_, rfl⟩
            rw [ex] at hx hxs hN hxb
            obtain ⟨rr, err⟩ : ∃ rr, min x.r (endOf t r - r) = rr := ⟨_, rfl⟩
            have hrr : 1 ≤ rr ∧ rr ≤ 3 := by omega
            obtain ⟨gs, egs⟩ : ∃ gs, rowTo (endOf t r) r cs (gridTo t r) i = gs := ⟨_, rfl⟩
            rw [egs] at hN hP HC2 HS2
            obtain ⟨⟨hF1, hF2, hF3, hF4⟩, hPn⟩ := hN
            obtain ⟨F, eF⟩ : ∃ F, ffree gs (bare r i (endOf t r) x) = F := ⟨_, rfl⟩
            rw [eF] at hF1 hF2 hF3
            have hcell : ∀ k : Int, atCol (bare r i (endOf t r) x) k = ⟨r, k, rr, x.c, i⟩ := fun k => by
              simp only [atCol, bare, err]
            have hpl : place gs r i (endOf t r) x = ⟨r, F, rr, x.c, i⟩ := by
              unfold place
              rw [eF, hcell]
            have hgsS : ∀ a ∈ gs, Stands t.rows.length a := fun a ha => (hP.stands a ha).1
            have hnext : rowTo (endOf t r) r cs (gridTo t r) (i + 1) = gs ++ [⟨r, F, rr, x.c, i⟩] := by
              show rowTo (endOf t r) r cs (gridTo t r) i ++ [place (rowTo (endOf t r) r cs (gridTo t r) i) r i (endOf t r) (cs.getD i dC)] = _
              rw [egs, ex, hpl]
            simp only [hcell] at hF2 hF3 hF4
            have HNX := Hid.intro hnext
            have HF2 := Hid.intro hF2
            have HF3 := Hid.intro hF3
            have HF4 := Hid.intro hF4
            have HGS := Hid.intro hgsS
            have hgl : gs.length ≤ 100 := by
              have h1 := grid_len HL.out r
              have h2 := rowTo_len (endOf t r) r cs (gridTo t r) i
              rw [egs] at h2
              have h3 : cs.length ≤ 5 := by
                obtain ⟨k, hk⟩ := HL.out.few
                have h4 := hk r
                rw [HE.out] at h4
                split at h4 <;> omega
              omega
            obtain ⟨va, vcp, rfl, _⟩ := row_form HS2.out.own
            obtain ⟨v0, v1, v2, v3, v4, v5, v6, v7, v8', v9', v10'⟩ := hx
            have HER := Hid.intro err
            clear hcs hwh hP hPn ex hxs hF2 hF3 hF4 hcell hpl hnext egs eF err hgsS
            have KE := Hid.intro (fun W : World => l2End_any ac (some ⟨g, off, none⟩) cc cr t ⟨hn8, HL.out.foot.1, by have := HL.out.foot; have := HL.out.head; omega⟩ r W)
            go_wp2_with fail
            obtain ⟨W1, hW1⟩ : ∃ W1, (wp.alloc (.cells #[.string x.s, .int .i64 x.c, .int .i64 x.r, .int .i64 x.a1, .int .i64 x.b1, .int .i64 x.a2, .int .i64 x.b2, .int .i64 x.a3, .int .i64 x.b3, .int .i64 x.a4, .int .i64 x.b4] 29)).alloc (.cells #[.int .i64 (r : Int), .int .i64 0, .int .i64 x.r, .int .i64 x.c, .int .i64 (i : Int)] 54) = W1 := ⟨_, rfl⟩
            rw [hW1]
            have KW : Below wp.heap.size wp W1 := by rw [← hW1]; exact k_alloc (k_alloc (Below.refl _ _) _) _
            have hzW : W1.heap.size = wp.heap.size + 2 := by rw [← hW1]; simp
            have HCB : Hid (W1.heap[wp.heap.size + 1]? = some (.cells #[.int .i64 (r : Int), .int .i64 0, .int .i64 x.r, .int .i64 x.c, .int .i64 (i : Int)] 54)) := Hid.intro (by
              have := newestB (wp.alloc (.cells #[.string x.s, .int .i64 x.c, .int .i64 x.r, .int .i64 x.a1, .int .i64 x.b1, .int .i64 x.a2, .int .i64 x.b2, .int .i64 x.a3, .int .i64 x.b3, .int .i64 x.a4, .int .i64 x.b4] 29)) (.cells #[.int .i64 (r : Int), .int .i64 0, .int .i64 x.r, .int .i64 x.c, .int .i64 (i : Int)] 54)
              rw [hW1] at this
              simpa using this)
            have hwz : w.heap.size + 2 ≤ wp.heap.size := by have := (Array.getElem?_eq_some_iff.1 HS2.out.res).1; omega
            have hgbl : gb < wp.heap.size := (Array.getElem?_eq_some_iff.1 HS2.out.grd).1
            have hvb : ∀ b, (Value.slice va gs.length vcp).ownBlock = some b → b < wp.heap.size := fun b hb => (row_lt HS2.out.own hb).2
            have HS3 := Hid.intro (HS2.out.kept KW)
            clear hW1 KW t0 t1 t2 t3 t4 v0 v1 v2 v3 v4 v5 v6 v7 v8' v9' v10' hu HS2
            have hne := bw_some W1
            have hlw : w.heap.size < W1.heap.size := by omega
            have q0 := bw_cell (a := ⟨w.heap.size, 0, none⟩) (v := .slice ac t.cols.length cc) hlw (cellB HS3.out.tbl)
            have q1 := bw_cell (a := ⟨w.heap.size, 1, none⟩) (v := .int .i64 t.head) hlw (cellB HS3.out.tbl)
            have q2 := bw_cell (a := ⟨w.heap.size, 2, none⟩) (v := .int .i64 t.foot) hlw (cellB HS3.out.tbl)
            have q3 := bw_cell (a := ⟨w.heap.size, 3, none⟩) (v := .slice (some ⟨g, off, none⟩) t.rows.length cr) hlw (cellB HS3.out.tbl)
            have q4 := bw_cell (a := ⟨w.heap.size, 4, none⟩) (v := .int .i64 t.gap) hlw (cellB HS3.out.tbl)
            have q5 := bw_cell (a := ⟨wp.heap.size + 1, 2, none⟩) (v := .int .i64 x.r) (by show wp.heap.size + 1 < _; omega) (cellB HCB.out)
            refine wp_region_quiet_below hmx (by kernel_rfl) ?_
            repeat (go_big_quiet_step (first | (go_at_call 60; refine bw_of (KE.out _))))
            refine wpQuiet_nil ?_
            intro W2 hw'
            obtain ⟨⟨Wx, hW2⟩, hw''⟩ := hw'
            subst hw''
            have HS4 := Hid.intro (HS3.out.kept hW2)
            have HCB2 := Hid.intro (blk_kept HCB.out hW2)
            clear q0 q1 q2 q3 q4 q5 hne HS3 HCB hW2
            go_upto_if 57 with fail
            go_cut [7] (fun s W => s = .pointer (some ⟨wp.heap.size + 1, 0, none⟩) ∧ Hid (SG w gb ac (some ⟨g, off, none⟩) cc cr t C2 (.slice va gs.length vcp) gs W) ∧ Hid (W.heap[wp.heap.size + 1]? = some (.cells #[.int .i64 (r : Int), .int .i64 0, .int .i64 rr, .int .i64 x.c, .int .i64 (i : Int)] 54)))
            case first =>
              obtain ⟨⟨t0, t1, t2, t3, t4⟩, _⟩ := fiveT HS4.out.tbl
              by_cases hgt : endOf t r < (r : Int) + x.r
              · have hrv : endOf t r - r = rr := by have := HER.out; omega
                go_wp2_with fail
                refine (KE.out _).mono ?_
                rintro e w5 ⟨rfl, hb5⟩
                have hCB5 := blk_kept HCB2.out hb5
                have c2 : w5.cell? ⟨wp.heap.size + 1, 2, none⟩ = some (.int .i64 x.r) := cellB hCB5
                have f2 : w5.frozen? ⟨wp.heap.size + 1, 2, none⟩ = false := freeB hCB5
                have HS5 : Hid (SG w gb ac (some ⟨g, off, none⟩) cc cr t C2 (.slice va gs.length vcp) gs (w5.setCell ⟨wp.heap.size + 1, 2, none⟩ (.int .i64 rr))) := (HS4.out.kept hb5).bkc ((Bk.refl (wp.heap.size + 1) w5).set (p := ⟨wp.heap.size + 1, 2, none⟩) (.inl rfl) _) (by omega) (by omega) (fun b hb => by have := hvb b hb; omega)
                have HCB5 : Hid ((w5.setCell ⟨wp.heap.size + 1, 2, none⟩ (.int .i64 rr)).heap[wp.heap.size + 1]? = some (.cells #[.int .i64 (r : Int), .int .i64 0, .int .i64 rr, .int .i64 x.c, .int .i64 (i : Int)] 54)) := setB hCB5 _
                clear hCB5 hb5 t0 t1 t2 t3 t4
                go_wp2_with fail
                go_meet
                case rel => exact ⟨rfl, HS5, HCB5⟩
              · have hrv : x.r = rr := by have := HER.out; omega
                go_wp2_with fail
                go_meet
                case rel => exact ⟨rfl, HS4, by rw [← hrv]; exact HCB2⟩
            case rest =>
              obtain ⟨rfl, HS5, HC5⟩ := hcut
              clear HS4 HCB2
              have KF : Hid (∀ (k : Nat) (W : World), k ≤ F → GsAt W (w.heap.size + 2) (.slice va gs.length vcp) gs → Calls Try.prog 61 #[.slice va gs.length vcp, .agg #[.int .i64 (r : Int), .int .i64 (k : Int), .int .i64 rr, .int .i64 x.c, .int .i64 (i : Int)]] W fun e w' => e = .returned (.bool (freeG gs ⟨r, k, rr, x.c, i⟩)) ∧ Below W.heap.size W w') := fun k W hk hG => l3Free_any va vcp gs (fun a ha => (HGS.out a ha).sm hn8) ⟨r, k, rr, x.c, i⟩ ((HF4.out k (by omega)).sm hn8) W hG
              have HAT : Hid (∀ W, OwnG W (w.heap.size + 2) (.slice va gs.length vcp) gs → GsAt W (w.heap.size + 2) (.slice va gs.length vcp) gs) := fun W h => h.at (fun a ha => (HGS.out a ha).gok hn8)
              go_wp2_with fail
              go_loopg [64] (F + 1) (fun kx _ W => ∃ k : Nat, k ≤ F ∧ F + 1 - k ≤ kx ∧ Hid (SG w gb ac (some ⟨g, off, none⟩) cc cr t C2 (.slice va gs.length vcp) gs W) ∧ Hid (W.heap[wp.heap.size + 1]? = some (.cells #[.int .i64 (r : Int), .int .i64 (k : Int), .int .i64 rr, .int .i64 x.c, .int .i64 (i : Int)] 54)))
              case atStart => exact ⟨0, by omega, by omega, HS5, HC5⟩
              case round =>
                obtain ⟨k, hkF, hkx3, HS6, HC6⟩ := hrel
                clear HS5 HC5
                obtain ⟨⟨b0, b1, b2, b3, b4⟩, fb0, fb1, fb2, fb3, fb4⟩ := fiveT HC6.out
                obtain ⟨⟨a0, a1, a2⟩, fa0, fa1, fa2⟩ := threeZ HS6.out.grd
                have hk90 : (k : Int) < 90 := by omega
                by_cases hkF2 : k < F
                · have hfr := HF3.out k hkF2
                  have KF2 := Hid.intro (KF.out k wr hkF (HAT.out _ HS6.out.own))
                  rw [hfr] at KF2
                  clear hfr
                  go_wp2_with fail
                  refine KF2.out.mono ?_
                  rintro e w7 ⟨rfl, hb7⟩
                  have hC7 := blk_kept HC6.out hb7
                  have c1 : w7.cell? ⟨wp.heap.size + 1, 1, none⟩ = some (.int .i64 (k : Int)) := cellB hC7
                  have f1 : w7.frozen? ⟨wp.heap.size + 1, 1, none⟩ = false := freeB hC7
                  have HS7 : Hid (SG w gb ac (some ⟨g, off, none⟩) cc cr t C2 (.slice va gs.length vcp) gs (w7.setCell ⟨wp.heap.size + 1, 1, none⟩ (.int .i64 ((k : Int) + 1)))) := (HS6.out.kept hb7).bkc ((Bk.refl (wp.heap.size + 1) w7).set (p := ⟨wp.heap.size + 1, 1, none⟩) (.inl rfl) _) (by omega) (by omega) (fun b hb => by have := hvb b hb; omega)
                  have HC7 : Hid ((w7.setCell ⟨wp.heap.size + 1, 1, none⟩ (.int .i64 ((k : Int) + 1))).heap[wp.heap.size + 1]? = some (.cells #[.int .i64 (r : Int), .int .i64 ((k : Int) + 1), .int .i64 rr, .int .i64 x.c, .int .i64 (i : Int)] 54)) := setB hC7 _
                  clear hC7 hb7 HS6 HC6 KF2 b0 b1 b2 b3 b4 a0 a1 a2 fb0 fb1 fb2 fb3 fb4 fa0 fa1 fa2
                  go_wp2
                  go_roundg (gk - 1)
                  case measure => omega
                  case rel => exact ⟨k + 1, by omega, by omega, HS7, HC7⟩
                · obtain rfl : k = F := by omega
                  have hfr := HF2.out
                  have KF2 := Hid.intro (KF.out k wr hkF (HAT.out _ HS6.out.own))
                  rw [hfr] at KF2
                  clear hfr
                  obtain ⟨i0, hi0, hz0', hz1', hz2'⟩ := info_parts infoGC
                  go_wp2_with fail
                  refine KF2.out.mono ?_
                  rintro e w7 ⟨rfl, hb7⟩
                  have hS7 := HS6.out.kept hb7
                  have hC7 := blk_kept HC6.out hb7
                  obtain ⟨⟨d0, d1, d2, d3, d4⟩, _⟩ := fiveT hC7
                  obtain ⟨⟨e0, e1, e2⟩, _⟩ := threeZ hS7.grd
                  have hla := k_alloc (Below.refl w7.heap.size w7) (.cells #[.int .i64 (r : Int), .int .i64 (k : Int), .int .i64 rr, .int .i64 x.c, .int .i64 (i : Int)] 54)
                  have hSA := hS7.kept hla
                  have hCA := blk_kept hC7 hla
                  have hXN := newestB w7 (.cells #[.int .i64 (r : Int), .int .i64 (k : Int), .int .i64 rr, .int .i64 x.c, .int .i64 (i : Int)] 54)
                  have hz7 : w.heap.size + 2 ≤ w7.heap.size := by have := (Array.getElem?_eq_some_iff.1 hS7.res).1; omega
                  clear b0 b1 b2 b3 b4 a0 a1 a2 fb0 fb1 fb2 fb3 fb4 fa0 fa1 fa2 KF2
                  go_wp2_with (at_builtin; refine wpList_append_own _ rfl _ _ 40 rfl (w.heap.size + 2) 54 i0 _ 5 40 Try.underlying40 hi0 hz0' hz1' hz2' rfl (by decide) _ _ _ rfl hSA.own ⟨w7.heap.size, 0, none⟩ 1 1 (gcVs ⟨r, k, rr, x.c, i⟩) rfl rfl (news_at hXN) (by simp [gcVs, Value.oneCell']) (by unfold maxLen; omega) (by omega) (by simp; omega) ?_)
                  intro v' w8 hown' hg' _
                  have hUb : ∀ b, (Value.slice va gs.length vcp).ownBlock = some b → w.heap.size + 2 ≤ b := fun b hb => (row_lt hSA.own hb).1
                  have hB8 : Below w.heap.size w w8 := hSA.bel.grown hg' hSA.bel.size (fun j e => by have := hUb j e; omega)
                  have hT8 := blk_grown hSA.tbl hg' (ne_of_own (row_ne_block hSA.own hSA.tbl (by decide)))
                  have hR8 := blk_grown hSA.res hg' (ne_of_own (row_ne_block hSA.own hSA.res (by decide)))
                  have hG8 := blk_grown hSA.grd hg' (ne_of_own (row_ne_block hSA.own hSA.grd (by decide)))
                  have hC8 := blk_grown hCA hg' (own_ne' (fun b hb => by have := hvb b hb; omega))
                  obtain ⟨ve, vq, rfl, _⟩ := row_form hown'
                  have hO8 : w8.ownsRow (w.heap.size + 2) 54 5 (.slice ve (gs.length + 1) vq) (gs ++ [(⟨r, k, rr, x.c, i⟩ : GC)]).length ((gs ++ [(⟨r, k, rr, x.c, i⟩ : GC)]).flatMap gcVs) := by
                    rw [List.length_append, List.flatMap_append]
                    simpa using hown'
                  have hgc : gb ≠ wp.heap.size + 1 := by omega
                  have g2 : w8.cell? ⟨gb, 2, none⟩ = some (.slice va gs.length vcp) := cellB hG8
                  have gf2 : w8.frozen? ⟨gb, 2, none⟩ = false := freeB hG8
                  have hG9 : (w8.setCell ⟨gb, 2, none⟩ (.slice ve (gs.length + 1) vq)).heap[gb]? = some (.cells #[.int .i64 (t.rows.length : Int), .int .i64 C2, (.slice ve (gs.length + 1) vq)] 42) := setB hG8 _
                  have hC9 : (w8.setCell ⟨gb, 2, none⟩ (.slice ve (gs.length + 1) vq)).heap[wp.heap.size + 1]? = some (.cells #[.int .i64 (r : Int), .int .i64 (k : Int), .int .i64 rr, .int .i64 x.c, .int .i64 (i : Int)] 54) := (Below.heap_setCell _ _ _ _ (fun e => hgc e.symm)).trans hC8
                  have hS9 : SG w gb ac (some ⟨g, off, none⟩) cc cr t C2 (.slice ve (gs.length + 1) vq) (gs ++ [(⟨r, k, rr, x.c, i⟩ : GC)]) (w8.setCell ⟨gb, 2, none⟩ (.slice ve (gs.length + 1) vq)) := ⟨hB8.setCell (by show _ ≤ gb; omega) _, (Below.heap_setCell _ _ _ _ (by show _ ≠ gb; omega)).trans hT8, (Below.heap_setCell _ _ _ _ (by show _ ≠ gb; omega)).trans hR8, hG9, row_set hO8 hG8 (by decide) _⟩
                  have HS9 := Hid.intro hS9
                  have HC9 := Hid.intro hC9
                  clear hown' hg' hUb hB8 hT8 hR8 hG8 hC8 hO8 hSA hCA hXN hla hS7 hC7 d0 d1 d2 d3 d4 e0 e1 e2 HS6 HC6 hb7 hG9 hC9 hS9
                  go_upto_region 15 with fail
                  clear g2 gf2
                  generalize w8.setCell ⟨gb, 2, none⟩ (.slice ve (gs.length + 1) vq) = w9 at HS9 HC9 ⊢
                  obtain ⟨⟨j0, j1, j2, j3, j4⟩, _⟩ := fiveT HC9.out
                  obtain ⟨⟨l0, l1, l2⟩, m0, m1, m2⟩ := threeZ HS9.out.grd
                  have HSZ : Hid (SG w gb ac (some ⟨g, off, none⟩) cc cr t (max C2 ((k : Int) + x.c)) (.slice ve (gs.length + 1) vq) (gs ++ [(⟨r, k, rr, x.c, i⟩ : GC)]) (w9.setCell ⟨gb, 1, none⟩ (.int .i64 (max C2 ((k : Int) + x.c))))) := ⟨HS9.out.bel.setCell (by show _ ≤ gb; omega) _, (Below.heap_setCell _ _ _ _ (by show _ ≠ gb; omega)).trans HS9.out.tbl, (Below.heap_setCell _ _ _ _ (by show _ ≠ gb; omega)).trans HS9.out.res, setB HS9.out.grd _, row_set HS9.out.own HS9.out.grd (by decide) _⟩
                  have HCZ : Hid (max C2 ((k : Int) + x.c) = colsOf (max 1 (t.cols.length : Int)) (gs ++ [(⟨r, k, rr, x.c, i⟩ : GC)])) := Hid.intro (by rw [colsOf_snoc, ← HC2.out])
                  rw [← HNX.out] at HSZ HCZ
                  generalize hmx2 : max C2 ((k : Int) + x.c) = CN at HSZ HCZ
                  have KM := Hid.intro (fun W => l1Max_any C2 ((k : Int) + x.c) W)
                  rw [hmx2] at KM
                  clear hmx2 HS9 HC9
                  go_wp2_with fail
                  refine (KM.out _).mono ?_
                  rintro e w10 ⟨rfl, rfl⟩
                  go_wp2
                  go_roundg (cs.length - (i + 1))
                  case measure => omega
                  case rel => exact ⟨i + 1, CN, (.slice ve (gs.length + 1) vq), by go_num, by omega, by omega, HCZ, HSZ⟩
          · obtain rfl : i = cs.length := by omega
            have HSE : Hid (SG w gb ac (some ⟨g, off, none⟩) cc cr t C2 vg2 (gridTo t (r + 1)) wp) := by
              show SG _ _ _ _ _ _ _ _ _ (rowTo (endOf t r) r (t.rows.getD r dR).cells (gridTo t r) (t.rows.getD r dR).cells.length) _
              rw [HE.out]
              exact HS2.out
            have HCE : Hid (C2 = colsOf (max 1 (t.cols.length : Int)) (gridTo t (r + 1))) := by
              show C2 = colsOf _ (rowTo (endOf t r) r (t.rows.getD r dR).cells (gridTo t r) (t.rows.getD r dR).cells.length)
              rw [HE.out]
              exact HC2.out
            clear HS2 HC2 hcs hwh
            go_wp2
            go_roundg (t.rows.length - (r + 1))
            case measure => omega
            case rel => exact ⟨r + 1, C2, vg2, by go_num, by omega, by omega, HCE, HSE⟩
      · obtain rfl : r = t.rows.length := by omega
        obtain ⟨va, vq, rfl, _⟩ := row_form HS1.out.own
        obtain ⟨⟨l0, l1, l2⟩, _⟩ := threeZ HS1.out.grd
        obtain ⟨⟨x0, x1, x2⟩, y0, y1, y2⟩ := threeZ HS1.out.res
        have h1 := setB (p := 0) HS1.out.res (.int .i64 (t.rows.length : Int))
        have h2 := setB (p := 1) h1 (.int .i64 C)
        have o1 := row_set (p := 0) HS1.out.own HS1.out.res (by decide) (.int .i64 (t.rows.length : Int))
        have o2 := row_set (p := 1) o1 h1 (by decide) (.int .i64 C)
        have o3 := row_set (p := 2) o2 h2 (by decide) (.slice va (gridTo t t.rows.length).length vq)
        have HO := Hid.intro (row_base o3 (by omega : w.heap.size ≤ w.heap.size + 2))
        have HB := Hid.intro (((HS1.out.bel.setCell (p := ⟨w.heap.size + 1, 0, none⟩) (by show _ ≤ w.heap.size + 1; omega) (.int .i64 (t.rows.length : Int))).setCell (p := ⟨w.heap.size + 1, 1, none⟩) (by show _ ≤ w.heap.size + 1; omega) (.int .i64 C)).setCell (p := ⟨w.heap.size + 1, 2, none⟩) (by show _ ≤ w.heap.size + 1; omega) (.slice va (gridTo t t.rows.length).length vq))
        clear h1 h2 o1 o2 o3 HS1
        go_wp2
        exact bodyPost_ret (v := .agg #[.int .i64 (t.rows.length : Int), .int .i64 C, (.slice va (gridTo t t.rows.length).length vq)]) (by simp [results, Try.results42, go_sem, x0, x1, x2]) rfl ⟨_, by rw [HCC.out]; rfl, HO.out, HB.out⟩
end Go.Proofs.Ytggmjiddadjilal
