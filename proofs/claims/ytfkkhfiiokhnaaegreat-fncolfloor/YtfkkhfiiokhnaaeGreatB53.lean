/-
  PROVED HERE: the law FnColFloor returns true at every code that lies in memory.
-/
import Derived.Test.YtfkkhfiiokhnaaeGreatB48
import Derived.Test.YtfkkhfiiokhnaaeGreatB49
import Derived.Test.YtfkkhfiiokhnaaeGreatB51
import Derived.Test.YtfkkhfiiokhnaaeGreatB52
import Derived.Test.YtfkkhfiiokhnaaeGreatB36
namespace Go.Proofs.YtfkkhfiiokhnaaeGreat
open Go.RowKit Go.BigFrame

structure LcJ (tb : Nat) (ac ar : Option Addr) (cc cr : Nat) (t : T) (n sm gap C gp : Int) (W3 : World) (L : Nat → Bool) (W : World) (v24 v25 v26 v27 v28 v29 v30 v31 v32 v33 v34 v35 v36 v37 v38 v39 v40 v41 v42 v43 v44 v45 v46 v47 v48 v49 v2 : Value) : Prop where
  f0 : L 0 = true → v24 = .int .i64 n
  f1 : L 1 = true → v25 = .agg #[.slice ac t.cols.length cc, .int .i64 t.head, .int .i64 t.foot, .slice ar t.rows.length cr, .int .i64 t.gap]
  f2 : L 2 = true → IntsAt W v26 (leastL t)
  f3 : L 3 = true → v27 = .int .i64 sm
  f4 : L 4 = true → v28 = .pointer (some ⟨tb, 4, none⟩)
  f5 : L 5 = true → v29 = .int .i64 gap
  f6 : L 6 = true → v30 = .agg #[.slice ac t.cols.length cc, .int .i64 t.head, .int .i64 t.foot, .slice ar t.rows.length cr, .int .i64 t.gap]
  f7 : L 7 = true → ∃ a b : Value, v31 = .agg #[a, .int .i64 C, b]
  f8 : L 8 = true → v32 = .int .i64 C
  f9 : L 9 = true → v33 = .int .i64 (C - 1)
  f10 : L 10 = true → v34 = .int .i64 gp
  f11 : L 11 = true → v35 = .int .i64 n
  f12 : L 12 = true → v36 = .bool true
  f13 : L 13 = true → v37 = .bool true
  f14 : L 14 = true → v38 = .agg #[.slice ac t.cols.length cc, .int .i64 t.head, .int .i64 t.foot, .slice ar t.rows.length cr, .int .i64 t.gap]
  f15 : L 15 = true → v39 = .int .i64 n
  f16 : L 16 = true → v40 = .int .i64 n
  f17 : L 17 = true → v41 = .bool true
  f18 : L 18 = true → v42 = .bool true
  f19 : L 19 = true → v43 = .bool true
  f20 : L 20 = true → v44 = .agg #[.slice ac t.cols.length cc, .int .i64 t.head, .int .i64 t.foot, .slice ar t.rows.length cr, .int .i64 t.gap]
  f21 : L 21 = true → IntsAt W v45 (leastL t)
  f22 : L 22 = true → v46 = .agg #[.slice ac t.cols.length cc, .int .i64 t.head, .int .i64 t.foot, .slice ar t.rows.length cr, .int .i64 t.gap]
  f23 : L 23 = true → IntsAt W v47 (leastL t)
  f24 : L 24 = true → v48 = .bool true
  f25 : L 25 = true → v49 = .bool true
  f26 : L 26 = true → v2 = .bool true
  b : Below W3.heap.size W3 W

theorem floor_facts {t : T} (hD : Drawn t) (hok : tblB t = true) : tabV t 0 = acrV (leastL t) t.gap ∧ widT t 0 = leastL t := by
  obtain ⟨e0, _, _, _, _, _, _, _, e1⟩ := acr_wid hD hok (width := 0) ⟨by omega, by omega⟩
  obtain ⟨_, _, ea, h0, _, _⟩ := acr_least hD hok
  refine ⟨?_, ?_⟩
  · rw [e1]
    split
    · rfl
    · rename_i h
      omega
  · rw [e0]
    exact wid_no (by unfold restV; omega)
set_option maxRecDepth 100000 in
set_option maxHeartbeats 4000000 in
theorem lawColFloor_walk (A : Option Addr) (len cap : Nat) (hlen : len ≤ 1048576) (w : World) (h : IsCode w A len cap) :
    Calls Tryz.prog 3 #[.slice A len cap] w fun e w' => e = .returned (.bool true) ∧ Below w.heap.size w w' := by
  have hl : ¬ (1048576 : Int) < (len : Int) := by omega
  have hmx : Tryz.prog.follows .mixedOrders = true := by kernel_rfl
  have hf1 := fieldG1
  have HD := Hid.intro h
  clear h
  go_enter Tryz.func3, Tryz.ntmps3
  go_wp2_with fail
  refine (drawColFloor_any _ _ _ _ HD.out).mono ?_
  rintro e w1 ⟨ac, ar, cc, cr, t, rfl, hD, hC1, hW1, hb1⟩
  have HS : Hid (St w w1.heap.size ac ar cc cr t (w1.alloc (.cells #[.slice ac t.cols.length cc, .int .i64 t.head, .int .i64 t.foot, .slice ar t.rows.length cr, .int .i64 t.gap] 26))) := ⟨hb1.alloc hb1.size _, TA.kept ⟨hC1, hW1⟩ (k_alloc (Below.refl _ _) _), newestB _ _⟩
  have HNo : Hid (tblB t = false → acrV (leastL t) t.gap = 0) := fun h => by rw [leastL_no h]; rfl
  have HLe := Hid.intro (fun h1 => acr_least hD (t := t) h1)
  have HFl := Hid.intro (fun h1 => floor_facts hD (t := t) h1)
  have HCN : Hid ((gOf t).cols = (colN t : Int)) := by
    obtain ⟨_, C, hgc, _, _⟩ := cel_of hD
    rw [Hid, colN_of hgc]; exact hgc
  have HCf := Hid.intro (fun W (h : TA W w.heap.size ac ar cc cr t) => implColFloor ac ar cc cr t hD W h.1 h.2)
  have HCs := Hid.intro (fun W (h : TA W w.heap.size ac ar cc cr t) => specColFloor ac ar cc cr t hD W h.1 h.2)
  have HLi := Hid.intro (fun W (h : TA W w.heap.size ac ar cc cr t) => implColLeast ac ar cc cr t hD W h.1 h.2)
  have HGi : Hid (∀ W, TA W w.heap.size ac ar cc cr t → Calls Tryz.prog 14 #[.agg #[.slice ac t.cols.length cc, .int .i64 t.head, .int .i64 t.foot, .slice ar t.rows.length cr, .int .i64 t.gap]] W fun e w' => ∃ a b : Value, e = .returned (.agg #[a, .int .i64 (colN t : Int), b]) ∧ Below W.heap.size W w') := fun W h => (implGrdOf ac ar cc cr t hD W h.1 h.2).mono (fun e w' ⟨vg, h1, _, h3⟩ => by rw [HCN.out] at h1; exact ⟨_, _, h1, h3⟩)
  have HWi := Hid.intro (fun W (h : TA W w.heap.size ac ar cc cr t) => implWidCols ac ar cc cr t hD 0 W h.1 h.2)
  have HTi : Hid (∀ W, TA W w.heap.size ac ar cc cr t → Calls Tryz.prog 15 #[.agg #[.slice ac t.cols.length cc, .int .i64 t.head, .int .i64 t.foot, .slice ar t.rows.length cr, .int .i64 t.gap], .int .i64 0] W fun e w' => e = .returned (.int .i64 (tabV t 0)) ∧ Below W.heap.size W w') := fun W h => implWidTable ac ar cc cr t hD 0 W h.1 h.2
  clear hC1 hW1 hb1 hD HD
  go_upto_region 4 with fail
  generalize w1.alloc (.cells #[.slice ac t.cols.length cc, .int .i64 t.head, .int .i64 t.foot, .slice ar t.rows.length cr, .int .i64 t.gap] 26) = W1 at HS ⊢
  generalize w1.heap.size = tb at HS ⊢
  generalize hn : acrV (leastL t) t.gap = n at HNo HLe HFl HCf HCs
  have Hn := Hid.intro hn
  clear hn
  have hnn : (n != n) = false := by simp
  obtain ⟨z0, z1, z2, z3, z4⟩ := HS.out.at
  go_wp2_with fail
  refine (HCf.out _ HS.out.2.1).mono ?_
  rintro e w2 ⟨rfl, hb2⟩
  replace HS := Hid.intro (HS.out.kept hb2)
  clear hb2 z0 z1 z2 z3 z4 HCf
  obtain ⟨z0, z1, z2, z3, z4⟩ := HS.out.at
  go_wp2_with fail
  refine (HCs.out _ HS.out.2.1).mono ?_
  rintro e w3 ⟨rfl, hb3⟩
  replace HS := Hid.intro (HS.out.kept hb3)
  clear hb3 z0 z1 z2 z3 z4 HCs
  obtain ⟨z0, z1, z2, z3, z4⟩ := HS.out.at
  have KO := Hid.intro (specTblOk ac ar cc cr t w3 HS.out.2.1.1 HS.out.2.1.2)
  cases htk : tblB t with
  | false =>
    rw [htk] at KO
    obtain rfl := HNo.out htk
    clear htk HLe HFl
    go_wp2_with fail
    refine KO.out.mono ?_
    rintro e w5 ⟨rfl, hb5⟩
    have HK5 := Hid.intro (HS.out.kept hb5).1
    clear hb5 KO z0 z1 z2 z3 z4
    go_wp2_with fail
    refine (pwOk_any _).mono ?_
    rintro e w6 ⟨rfl, rfl⟩
    go_wp2
    go_ret
    exact ⟨rfl, HK5.out⟩
  | true =>
    rw [htk] at KO
    obtain ⟨hC1, hC88, hT, h0, h1, hall⟩ := HLe.out htk
    obtain ⟨f0, f1⟩ := HFl.out htk
    rw [f0] at HTi
    rw [f1] at HWi
    have KP := Hid.intro (fun v W (h : IntsAt W v (leastL t)) => lawspwSum_any v (leastL t) (by rw [leastL_len]; omega) hall W h)
    have hgap : 0 ≤ t.gap ∧ t.gap ≤ 3 := by
      have hok := htk
      simp only [tblB, inB, Bool.and_eq_true, decide_eq_true_eq] at hok
      exact hok.2.2.1
    have hs := sum_bound hall
    have hgg : 0 ≤ t.gap * ((colN t : Int) - 1) ∧ t.gap * ((colN t : Int) - 1) ≤ 1000 := ⟨Int.mul_nonneg hgap.1 (by omega), Int.le_trans (Int.mul_le_mul hgap.2 (show (colN t : Int) - 1 ≤ 87 by omega) (by omega) (by omega)) (by omega)⟩
    have HW1 : Hid (IntKind.i64.wrap ((colN t : Int) - 1) = (colN t : Int) - 1) := by unfold Hid; rw [IntKind.wrap_i64]; omega
    obtain ⟨gp, hgp⟩ : ∃ gp, t.gap * ((colN t : Int) - 1) = gp := ⟨_, rfl⟩
    have HW2 : Hid (IntKind.i64.wrap (t.gap * ((colN t : Int) - 1)) = gp) := by unfold Hid; rw [IntKind.wrap_i64, ← hgp]; omega
    have HW3 : Hid (IntKind.i64.wrap ((leastL t).sum + gp) = n) := by unfold Hid; rw [← hgp, IntKind.wrap_i64, hT]; omega
    clear f0 f1 hT h0 h1 hall hs htk HLe HFl HNo hgap hgg hgp
    generalize (leastL t).sum = sm at KP HW3
    generalize (colN t : Int) = C at HGi HW1 HW2
    go_wp2_with fail
    refine KO.out.mono ?_
    rintro e w5 ⟨rfl, hb5⟩
    replace HS := Hid.intro (HS.out.kept hb5)
    clear hb5 KO z0 z1 z2 z3 z4
    go_upto_region 9 with fail
    obtain ⟨W3, hW3⟩ : ∃ W3, W3 = w5 := ⟨_, rfl⟩
    rw [← hW3] at HS ⊢
    clear hW3
    have htb := (Array.getElem?_eq_some_iff.1 HS.out.2.2).1
    have KL := Hid.intro (fun W (h : Below W3.heap.size W3 W) => HLi.out W (HS.out.kept h).2.1)
    have KO := Hid.intro (fun W (h : Below W3.heap.size W3 W) => HGi.out W (HS.out.kept h).2.1)
    have KT := Hid.intro (fun W (h : Below W3.heap.size W3 W) => HTi.out W (HS.out.kept h).2.1)
    have KW := Hid.intro (fun W (h : Below W3.heap.size W3 W) => HWi.out W (HS.out.kept h).2.1)
    clear HLi HGi HTi HWi
    as_aux_lemma =>
      refine wp_region_inv2 (fun L act W => ∃ v24 v25 v26 v27 v28 v29 v30 v31 v32 v33 v34 v35 v36 v37 v38 v39 v40 v41 v42 v43 v44 v45 v46 v47 v48 v49 v2 : Value, act = ⟨#[.slice A len cap, undef, v2, .pointer (some ⟨tb, 0, none⟩), .int .i64 n, .slice A len cap, .int .i64 len, .bool false, .slice A len cap, .agg #[.slice ac t.cols.length cc, .int .i64 t.head, .int .i64 t.foot, .slice ar t.rows.length cr, .int .i64 t.gap], .agg #[.slice ac t.cols.length cc, .int .i64 t.head, .int .i64 t.foot, .slice ar t.rows.length cr, .int .i64 t.gap], .int .i64 n, .int .i64 n, .agg #[.slice ac t.cols.length cc, .int .i64 t.head, .int .i64 t.foot, .slice ar t.rows.length cr, .int .i64 t.gap], .int .i64 n, .bool false, .agg #[.slice ac t.cols.length cc, .int .i64 t.head, .int .i64 t.foot, .slice ar t.rows.length cr, .int .i64 t.gap], .bool true, .bool false, undef, undef, undef, undef, undef, v24, v25, v26, v27, v28, v29, v30, v31, v32, v33, v34, v35, v36, v37, v38, v39, v40, v41, v42, v43, v44, v45, v46, v47, v48, v49], []⟩ ∧ LcJ tb ac ar cc cr t n sm t.gap C gp W3 L W v24 v25 v26 v27 v28 v29 v30 v31 v32 v33 v34 v35 v36 v37 v38 v39 v40 v41 v42 v43 v44 v45 v46 v47 v48 v49 v2) hmx (by kernel_rfl) ?hs ?hd ?h0
      case h0 => exact ⟨_, _, _, _, _, _, _, _, _, _, _, _, _, _, _, _, _, _, _, _, _, _, _, _, _, _, _, rfl, ⟨(fun h => by cases h), (fun h => by cases h), (fun h => by cases h), (fun h => by cases h), (fun h => by cases h), (fun h => by cases h), (fun h => by cases h), (fun h => by cases h), (fun h => by cases h), (fun h => by cases h), (fun h => by cases h), (fun h => by cases h), (fun h => by cases h), (fun h => by cases h), (fun h => by cases h), (fun h => by cases h), (fun h => by cases h), (fun h => by cases h), (fun h => by cases h), (fun h => by cases h), (fun h => by cases h), (fun h => by cases h), (fun h => by cases h), (fun h => by cases h), (fun h => by cases h), (fun h => by cases h), (fun h => by cases h), k_drew (Below.refl _ _)⟩⟩
      case hd =>
        intro L act W hJ hall
        obtain ⟨v24, v25, v26, v27, v28, v29, v30, v31, v32, v33, v34, v35, v36, v37, v38, v39, v40, v41, v42, v43, v44, v45, v46, v47, v48, v49, v2, ha, J⟩ := hJ
        subst ha
        obtain rfl := J.f26 (hall 26 (by decide))
        have HB := Hid.intro (HS.out.kept J.b).1
        clear J hall
        go_wp2
        go_ret
        exact ⟨rfl, HB.out⟩
      case hs =>
        intro L act W i o hJ hcl ho hLi haft K hK
        obtain ⟨v24, v25, v26, v27, v28, v29, v30, v31, v32, v33, v34, v35, v36, v37, v38, v39, v40, v41, v42, v43, v44, v45, v46, v47, v48, v49, v2, ha, J⟩ := hJ
        subst ha
        have hi' : i < 27 := by
          have := (Array.getElem?_eq_some_iff.1 ho).1
          simpa using this
        rcases (by omega : i = 0 ∨ i = 1 ∨ i = 2 ∨ i = 3 ∨ i = 4 ∨ i = 5 ∨ i = 6 ∨ i = 7 ∨ i = 8 ∨ i = 9 ∨ i = 10 ∨ i = 11 ∨ i = 12 ∨ i = 13 ∨ i = 14 ∨ i = 15 ∨ i = 16 ∨ i = 17 ∨ i = 18 ∨ i = 19 ∨ i = 20 ∨ i = 21 ∨ i = 22 ∨ i = 23 ∨ i = 24 ∨ i = 25 ∨ i = 26) with rfl | rfl | rfl | rfl | rfl | rfl | rfl | rfl | rfl | rfl | rfl | rfl | rfl | rfl | rfl | rfl | rfl | rfl | rfl | rfl | rfl | rfl | rfl | rfl | rfl | rfl | rfl
        all_goals
          simp only [List.getElem?_toArray, List.getElem?_cons_zero, List.getElem?_cons_succ, Option.some.injEq] at ho
          subst ho
          clear hi'
        · skip
          go_simp
          exact hK _ _ ⟨_, _, _, _, _, _, _, _, _, _, _, _, _, _, _, _, _, _, _, _, _, _, _, _, _, _, _, rfl, ⟨(fun _ => rfl), (fun h => J.f1 (un h)), (fun h => J.f2 (un h)), (fun h => J.f3 (un h)), (fun h => J.f4 (un h)), (fun h => J.f5 (un h)), (fun h => J.f6 (un h)), (fun h => J.f7 (un h)), (fun h => J.f8 (un h)), (fun h => J.f9 (un h)), (fun h => J.f10 (un h)), (fun h => J.f11 (un h)), (fun h => J.f12 (un h)), (fun h => J.f13 (un h)), (fun h => J.f14 (un h)), (fun h => J.f15 (un h)), (fun h => J.f16 (un h)), (fun h => J.f17 (un h)), (fun h => J.f18 (un h)), (fun h => J.f19 (un h)), (fun h => J.f20 (un h)), (fun h => J.f21 (un h)), (fun h => J.f22 (un h)), (fun h => J.f23 (un h)), (fun h => J.f24 (un h)), (fun h => J.f25 (un h)), (fun h => J.f26 (un h)), J.b⟩⟩
        · skip
          obtain ⟨q0, q1, q2, q3, q4⟩ := (HS.out.kept J.b).at
          have hl := Nat.lt_of_lt_of_le htb J.b.size
          go_simp
          exact hK _ _ ⟨_, _, _, _, _, _, _, _, _, _, _, _, _, _, _, _, _, _, _, _, _, _, _, _, _, _, _, rfl, ⟨(fun h => J.f0 (un h)), (fun _ => rfl), (fun h => J.f2 (un h)), (fun h => J.f3 (un h)), (fun h => J.f4 (un h)), (fun h => J.f5 (un h)), (fun h => J.f6 (un h)), (fun h => J.f7 (un h)), (fun h => J.f8 (un h)), (fun h => J.f9 (un h)), (fun h => J.f10 (un h)), (fun h => J.f11 (un h)), (fun h => J.f12 (un h)), (fun h => J.f13 (un h)), (fun h => J.f14 (un h)), (fun h => J.f15 (un h)), (fun h => J.f16 (un h)), (fun h => J.f17 (un h)), (fun h => J.f18 (un h)), (fun h => J.f19 (un h)), (fun h => J.f20 (un h)), (fun h => J.f21 (un h)), (fun h => J.f22 (un h)), (fun h => J.f23 (un h)), (fun h => J.f24 (un h)), (fun h => J.f25 (un h)), (fun h => J.f26 (un h)), J.b⟩⟩
        · skip
          obtain rfl := J.f1 (haft ⟨1, .data⟩ (by simp) rfl)
          go_simp
          go_wp2_with (go_at_call 13; refine (KL.out W J.b).mono ?_; rintro e W2 ⟨v, rfl, hR, hb⟩; have hI := hR.at; clear hR)
          exact ⟨_, _, _, _, _, _, _, _, _, _, _, _, _, _, _, _, _, _, _, _, _, _, _, _, _, _, _, rfl, ⟨(fun h => J.f0 (un h)), (fun h => J.f1 (un h)), (fun _ => hI), (fun h => J.f3 (un h)), (fun h => J.f4 (un h)), (fun h => J.f5 (un h)), (fun h => J.f6 (un h)), (fun h => J.f7 (un h)), (fun h => J.f8 (un h)), (fun h => J.f9 (un h)), (fun h => J.f10 (un h)), (fun h => J.f11 (un h)), (fun h => J.f12 (un h)), (fun h => J.f13 (un h)), (fun h => J.f14 (un h)), (fun h => J.f15 (un h)), (fun h => J.f16 (un h)), (fun h => J.f17 (un h)), (fun h => J.f18 (un h)), (fun h => J.f19 (un h)), (fun h => J.f20 (un h)), (fun h => (J.f21 (un h)).kept hb), (fun h => J.f22 (un h)), (fun h => (J.f23 (un h)).kept hb), (fun h => J.f24 (un h)), (fun h => J.f25 (un h)), (fun h => J.f26 (un h)), k_trans J.b hb⟩⟩
        · skip
          have hI := J.f2 (haft ⟨2, .data⟩ (by simp) rfl)
          obtain ⟨aq, cq, rfl, _⟩ := hI.form
          go_simp
          go_wp2_with (go_at_call 12; refine (KP.out _ W hI).mono ?_; rintro e W2 ⟨rfl, hE⟩; have hb : Below W.heap.size W W2 := (hE ▸ Below.refl _ _); clear hE)
          exact ⟨_, _, _, _, _, _, _, _, _, _, _, _, _, _, _, _, _, _, _, _, _, _, _, _, _, _, _, rfl, ⟨(fun h => J.f0 (un h)), (fun h => J.f1 (un h)), (fun h => (J.f2 (un h)).kept hb), (fun _ => rfl), (fun h => J.f4 (un h)), (fun h => J.f5 (un h)), (fun h => J.f6 (un h)), (fun h => J.f7 (un h)), (fun h => J.f8 (un h)), (fun h => J.f9 (un h)), (fun h => J.f10 (un h)), (fun h => J.f11 (un h)), (fun h => J.f12 (un h)), (fun h => J.f13 (un h)), (fun h => J.f14 (un h)), (fun h => J.f15 (un h)), (fun h => J.f16 (un h)), (fun h => J.f17 (un h)), (fun h => J.f18 (un h)), (fun h => J.f19 (un h)), (fun h => J.f20 (un h)), (fun h => (J.f21 (un h)).kept hb), (fun h => J.f22 (un h)), (fun h => (J.f23 (un h)).kept hb), (fun h => J.f24 (un h)), (fun h => J.f25 (un h)), (fun h => J.f26 (un h)), k_trans J.b hb⟩⟩
        · skip
          go_simp
          exact hK _ _ ⟨_, _, _, _, _, _, _, _, _, _, _, _, _, _, _, _, _, _, _, _, _, _, _, _, _, _, _, rfl, ⟨(fun h => J.f0 (un h)), (fun h => J.f1 (un h)), (fun h => J.f2 (un h)), (fun h => J.f3 (un h)), (fun _ => rfl), (fun h => J.f5 (un h)), (fun h => J.f6 (un h)), (fun h => J.f7 (un h)), (fun h => J.f8 (un h)), (fun h => J.f9 (un h)), (fun h => J.f10 (un h)), (fun h => J.f11 (un h)), (fun h => J.f12 (un h)), (fun h => J.f13 (un h)), (fun h => J.f14 (un h)), (fun h => J.f15 (un h)), (fun h => J.f16 (un h)), (fun h => J.f17 (un h)), (fun h => J.f18 (un h)), (fun h => J.f19 (un h)), (fun h => J.f20 (un h)), (fun h => J.f21 (un h)), (fun h => J.f22 (un h)), (fun h => J.f23 (un h)), (fun h => J.f24 (un h)), (fun h => J.f25 (un h)), (fun h => J.f26 (un h)), J.b⟩⟩
        · skip
          obtain rfl := J.f4 (haft ⟨4, .data⟩ (by simp) rfl)
          obtain ⟨q0, q1, q2, q3, q4⟩ := (HS.out.kept J.b).at
          have hl := Nat.lt_of_lt_of_le htb J.b.size
          go_simp
          exact hK _ _ ⟨_, _, _, _, _, _, _, _, _, _, _, _, _, _, _, _, _, _, _, _, _, _, _, _, _, _, _, rfl, ⟨(fun h => J.f0 (un h)), (fun h => J.f1 (un h)), (fun h => J.f2 (un h)), (fun h => J.f3 (un h)), (fun h => J.f4 (un h)), (fun _ => rfl), (fun h => J.f6 (un h)), (fun h => J.f7 (un h)), (fun h => J.f8 (un h)), (fun h => J.f9 (un h)), (fun h => J.f10 (un h)), (fun h => J.f11 (un h)), (fun h => J.f12 (un h)), (fun h => J.f13 (un h)), (fun h => J.f14 (un h)), (fun h => J.f15 (un h)), (fun h => J.f16 (un h)), (fun h => J.f17 (un h)), (fun h => J.f18 (un h)), (fun h => J.f19 (un h)), (fun h => J.f20 (un h)), (fun h => J.f21 (un h)), (fun h => J.f22 (un h)), (fun h => J.f23 (un h)), (fun h => J.f24 (un h)), (fun h => J.f25 (un h)), (fun h => J.f26 (un h)), J.b⟩⟩
        · skip
          obtain ⟨q0, q1, q2, q3, q4⟩ := (HS.out.kept J.b).at
          have hl := Nat.lt_of_lt_of_le htb J.b.size
          go_simp
          exact hK _ _ ⟨_, _, _, _, _, _, _, _, _, _, _, _, _, _, _, _, _, _, _, _, _, _, _, _, _, _, _, rfl, ⟨(fun h => J.f0 (un h)), (fun h => J.f1 (un h)), (fun h => J.f2 (un h)), (fun h => J.f3 (un h)), (fun h => J.f4 (un h)), (fun h => J.f5 (un h)), (fun _ => rfl), (fun h => J.f7 (un h)), (fun h => J.f8 (un h)), (fun h => J.f9 (un h)), (fun h => J.f10 (un h)), (fun h => J.f11 (un h)), (fun h => J.f12 (un h)), (fun h => J.f13 (un h)), (fun h => J.f14 (un h)), (fun h => J.f15 (un h)), (fun h => J.f16 (un h)), (fun h => J.f17 (un h)), (fun h => J.f18 (un h)), (fun h => J.f19 (un h)), (fun h => J.f20 (un h)), (fun h => J.f21 (un h)), (fun h => J.f22 (un h)), (fun h => J.f23 (un h)), (fun h => J.f24 (un h)), (fun h => J.f25 (un h)), (fun h => J.f26 (un h)), J.b⟩⟩
        · skip
          obtain rfl := J.f6 (haft ⟨6, .data⟩ (by simp) rfl)
          go_simp
          go_wp2_with (go_at_call 14; refine (KO.out W J.b).mono ?_; rintro e W2 ⟨a, b, rfl, hb⟩)
          exact ⟨_, _, _, _, _, _, _, _, _, _, _, _, _, _, _, _, _, _, _, _, _, _, _, _, _, _, _, rfl, ⟨(fun h => J.f0 (un h)), (fun h => J.f1 (un h)), (fun h => (J.f2 (un h)).kept hb), (fun h => J.f3 (un h)), (fun h => J.f4 (un h)), (fun h => J.f5 (un h)), (fun h => J.f6 (un h)), (fun _ => ⟨_, _, rfl⟩), (fun h => J.f8 (un h)), (fun h => J.f9 (un h)), (fun h => J.f10 (un h)), (fun h => J.f11 (un h)), (fun h => J.f12 (un h)), (fun h => J.f13 (un h)), (fun h => J.f14 (un h)), (fun h => J.f15 (un h)), (fun h => J.f16 (un h)), (fun h => J.f17 (un h)), (fun h => J.f18 (un h)), (fun h => J.f19 (un h)), (fun h => J.f20 (un h)), (fun h => (J.f21 (un h)).kept hb), (fun h => J.f22 (un h)), (fun h => (J.f23 (un h)).kept hb), (fun h => J.f24 (un h)), (fun h => J.f25 (un h)), (fun h => J.f26 (un h)), k_trans J.b hb⟩⟩
        · skip
          obtain ⟨ga, gb, rfl⟩ := J.f7 (haft ⟨7, .data⟩ (by simp) rfl)
          go_simp
          exact hK _ _ ⟨_, _, _, _, _, _, _, _, _, _, _, _, _, _, _, _, _, _, _, _, _, _, _, _, _, _, _, rfl, ⟨(fun h => J.f0 (un h)), (fun h => J.f1 (un h)), (fun h => J.f2 (un h)), (fun h => J.f3 (un h)), (fun h => J.f4 (un h)), (fun h => J.f5 (un h)), (fun h => J.f6 (un h)), (fun h => J.f7 (un h)), (fun _ => rfl), (fun h => J.f9 (un h)), (fun h => J.f10 (un h)), (fun h => J.f11 (un h)), (fun h => J.f12 (un h)), (fun h => J.f13 (un h)), (fun h => J.f14 (un h)), (fun h => J.f15 (un h)), (fun h => J.f16 (un h)), (fun h => J.f17 (un h)), (fun h => J.f18 (un h)), (fun h => J.f19 (un h)), (fun h => J.f20 (un h)), (fun h => J.f21 (un h)), (fun h => J.f22 (un h)), (fun h => J.f23 (un h)), (fun h => J.f24 (un h)), (fun h => J.f25 (un h)), (fun h => J.f26 (un h)), J.b⟩⟩
        · skip
          obtain rfl := J.f8 (haft ⟨8, .data⟩ (by simp) rfl)
          go_simp
          exact hK _ _ ⟨_, _, _, _, _, _, _, _, _, _, _, _, _, _, _, _, _, _, _, _, _, _, _, _, _, _, _, rfl, ⟨(fun h => J.f0 (un h)), (fun h => J.f1 (un h)), (fun h => J.f2 (un h)), (fun h => J.f3 (un h)), (fun h => J.f4 (un h)), (fun h => J.f5 (un h)), (fun h => J.f6 (un h)), (fun h => J.f7 (un h)), (fun h => J.f8 (un h)), (fun _ => by first | rfl | rw [HW1.out]), (fun h => J.f10 (un h)), (fun h => J.f11 (un h)), (fun h => J.f12 (un h)), (fun h => J.f13 (un h)), (fun h => J.f14 (un h)), (fun h => J.f15 (un h)), (fun h => J.f16 (un h)), (fun h => J.f17 (un h)), (fun h => J.f18 (un h)), (fun h => J.f19 (un h)), (fun h => J.f20 (un h)), (fun h => J.f21 (un h)), (fun h => J.f22 (un h)), (fun h => J.f23 (un h)), (fun h => J.f24 (un h)), (fun h => J.f25 (un h)), (fun h => J.f26 (un h)), J.b⟩⟩
        · skip
          obtain rfl := J.f5 (haft ⟨5, .data⟩ (by simp) rfl)
          obtain rfl := J.f9 (haft ⟨9, .data⟩ (by simp) rfl)
          go_simp
          exact hK _ _ ⟨_, _, _, _, _, _, _, _, _, _, _, _, _, _, _, _, _, _, _, _, _, _, _, _, _, _, _, rfl, ⟨(fun h => J.f0 (un h)), (fun h => J.f1 (un h)), (fun h => J.f2 (un h)), (fun h => J.f3 (un h)), (fun h => J.f4 (un h)), (fun h => J.f5 (un h)), (fun h => J.f6 (un h)), (fun h => J.f7 (un h)), (fun h => J.f8 (un h)), (fun h => J.f9 (un h)), (fun _ => by rw [HW2.out]), (fun h => J.f11 (un h)), (fun h => J.f12 (un h)), (fun h => J.f13 (un h)), (fun h => J.f14 (un h)), (fun h => J.f15 (un h)), (fun h => J.f16 (un h)), (fun h => J.f17 (un h)), (fun h => J.f18 (un h)), (fun h => J.f19 (un h)), (fun h => J.f20 (un h)), (fun h => J.f21 (un h)), (fun h => J.f22 (un h)), (fun h => J.f23 (un h)), (fun h => J.f24 (un h)), (fun h => J.f25 (un h)), (fun h => J.f26 (un h)), J.b⟩⟩
        · skip
          obtain rfl := J.f3 (haft ⟨3, .data⟩ (by simp) rfl)
          obtain rfl := J.f10 (haft ⟨10, .data⟩ (by simp) rfl)
          go_simp
          exact hK _ _ ⟨_, _, _, _, _, _, _, _, _, _, _, _, _, _, _, _, _, _, _, _, _, _, _, _, _, _, _, rfl, ⟨(fun h => J.f0 (un h)), (fun h => J.f1 (un h)), (fun h => J.f2 (un h)), (fun h => J.f3 (un h)), (fun h => J.f4 (un h)), (fun h => J.f5 (un h)), (fun h => J.f6 (un h)), (fun h => J.f7 (un h)), (fun h => J.f8 (un h)), (fun h => J.f9 (un h)), (fun h => J.f10 (un h)), (fun _ => by rw [HW3.out]), (fun h => J.f12 (un h)), (fun h => J.f13 (un h)), (fun h => J.f14 (un h)), (fun h => J.f15 (un h)), (fun h => J.f16 (un h)), (fun h => J.f17 (un h)), (fun h => J.f18 (un h)), (fun h => J.f19 (un h)), (fun h => J.f20 (un h)), (fun h => J.f21 (un h)), (fun h => J.f22 (un h)), (fun h => J.f23 (un h)), (fun h => J.f24 (un h)), (fun h => J.f25 (un h)), (fun h => J.f26 (un h)), J.b⟩⟩
        · skip
          obtain rfl := J.f0 (haft ⟨0, .data⟩ (by simp) rfl)
          obtain rfl := J.f11 (haft ⟨11, .data⟩ (by simp) rfl)
          go_simp
          exact hK _ _ ⟨_, _, _, _, _, _, _, _, _, _, _, _, _, _, _, _, _, _, _, _, _, _, _, _, _, _, _, rfl, ⟨(fun h => J.f0 (un h)), (fun h => J.f1 (un h)), (fun h => J.f2 (un h)), (fun h => J.f3 (un h)), (fun h => J.f4 (un h)), (fun h => J.f5 (un h)), (fun h => J.f6 (un h)), (fun h => J.f7 (un h)), (fun h => J.f8 (un h)), (fun h => J.f9 (un h)), (fun h => J.f10 (un h)), (fun h => J.f11 (un h)), (fun _ => by first | rfl | simp), (fun h => J.f13 (un h)), (fun h => J.f14 (un h)), (fun h => J.f15 (un h)), (fun h => J.f16 (un h)), (fun h => J.f17 (un h)), (fun h => J.f18 (un h)), (fun h => J.f19 (un h)), (fun h => J.f20 (un h)), (fun h => J.f21 (un h)), (fun h => J.f22 (un h)), (fun h => J.f23 (un h)), (fun h => J.f24 (un h)), (fun h => J.f25 (un h)), (fun h => J.f26 (un h)), J.b⟩⟩
        · skip
          obtain rfl := J.f12 (haft ⟨12, .data⟩ (by simp) rfl)
          go_simp
          exact hK _ _ ⟨_, _, _, _, _, _, _, _, _, _, _, _, _, _, _, _, _, _, _, _, _, _, _, _, _, _, _, rfl, ⟨(fun h => J.f0 (un h)), (fun h => J.f1 (un h)), (fun h => J.f2 (un h)), (fun h => J.f3 (un h)), (fun h => J.f4 (un h)), (fun h => J.f5 (un h)), (fun h => J.f6 (un h)), (fun h => J.f7 (un h)), (fun h => J.f8 (un h)), (fun h => J.f9 (un h)), (fun h => J.f10 (un h)), (fun h => J.f11 (un h)), (fun h => J.f12 (un h)), (fun _ => rfl), (fun h => J.f14 (un h)), (fun h => J.f15 (un h)), (fun h => J.f16 (un h)), (fun h => J.f17 (un h)), (fun h => J.f18 (un h)), (fun h => J.f19 (un h)), (fun h => J.f20 (un h)), (fun h => J.f21 (un h)), (fun h => J.f22 (un h)), (fun h => J.f23 (un h)), (fun h => J.f24 (un h)), (fun h => J.f25 (un h)), (fun h => J.f26 (un h)), J.b⟩⟩
        · skip
          obtain rfl := J.f13 (haft ⟨13, .guard⟩ (by simp) rfl)
          obtain ⟨q0, q1, q2, q3, q4⟩ := (HS.out.kept J.b).at
          have hl := Nat.lt_of_lt_of_le htb J.b.size
          rw [if_pos (by rfl)]
          go_simp
          exact hK _ _ ⟨_, _, _, _, _, _, _, _, _, _, _, _, _, _, _, _, _, _, _, _, _, _, _, _, _, _, _, rfl, ⟨(fun h => J.f0 (un h)), (fun h => J.f1 (un h)), (fun h => J.f2 (un h)), (fun h => J.f3 (un h)), (fun h => J.f4 (un h)), (fun h => J.f5 (un h)), (fun h => J.f6 (un h)), (fun h => J.f7 (un h)), (fun h => J.f8 (un h)), (fun h => J.f9 (un h)), (fun h => J.f10 (un h)), (fun h => J.f11 (un h)), (fun h => J.f12 (un h)), (fun h => J.f13 (un h)), (fun _ => rfl), (fun h => J.f15 (un h)), (fun h => J.f16 (un h)), (fun h => J.f17 (un h)), (fun h => J.f18 (un h)), (fun h => J.f19 (un h)), (fun h => J.f20 (un h)), (fun h => J.f21 (un h)), (fun h => J.f22 (un h)), (fun h => J.f23 (un h)), (fun h => J.f24 (un h)), (fun h => J.f25 (un h)), (fun h => J.f26 (un h)), J.b⟩⟩
        · skip
          obtain rfl := J.f13 (haft ⟨13, .guard⟩ (by simp) rfl)
          obtain rfl := J.f14 (haft ⟨14, .data⟩ (by simp) rfl)
          rw [if_pos (by rfl)]
          go_simp
          go_wp2_with (go_at_call 15; refine (KT.out W J.b).mono ?_; rintro e W2 ⟨rfl, hb⟩)
          exact ⟨_, _, _, _, _, _, _, _, _, _, _, _, _, _, _, _, _, _, _, _, _, _, _, _, _, _, _, rfl, ⟨(fun h => J.f0 (un h)), (fun h => J.f1 (un h)), (fun h => (J.f2 (un h)).kept hb), (fun h => J.f3 (un h)), (fun h => J.f4 (un h)), (fun h => J.f5 (un h)), (fun h => J.f6 (un h)), (fun h => J.f7 (un h)), (fun h => J.f8 (un h)), (fun h => J.f9 (un h)), (fun h => J.f10 (un h)), (fun h => J.f11 (un h)), (fun h => J.f12 (un h)), (fun h => J.f13 (un h)), (fun h => J.f14 (un h)), (fun _ => rfl), (fun h => J.f16 (un h)), (fun h => J.f17 (un h)), (fun h => J.f18 (un h)), (fun h => J.f19 (un h)), (fun h => J.f20 (un h)), (fun h => (J.f21 (un h)).kept hb), (fun h => J.f22 (un h)), (fun h => (J.f23 (un h)).kept hb), (fun h => J.f24 (un h)), (fun h => J.f25 (un h)), (fun h => J.f26 (un h)), k_trans J.b hb⟩⟩
        · skip
          obtain rfl := J.f13 (haft ⟨13, .guard⟩ (by simp) rfl)
          rw [if_pos (by rfl)]
          go_simp
          exact hK _ _ ⟨_, _, _, _, _, _, _, _, _, _, _, _, _, _, _, _, _, _, _, _, _, _, _, _, _, _, _, rfl, ⟨(fun h => J.f0 (un h)), (fun h => J.f1 (un h)), (fun h => J.f2 (un h)), (fun h => J.f3 (un h)), (fun h => J.f4 (un h)), (fun h => J.f5 (un h)), (fun h => J.f6 (un h)), (fun h => J.f7 (un h)), (fun h => J.f8 (un h)), (fun h => J.f9 (un h)), (fun h => J.f10 (un h)), (fun h => J.f11 (un h)), (fun h => J.f12 (un h)), (fun h => J.f13 (un h)), (fun h => J.f14 (un h)), (fun h => J.f15 (un h)), (fun _ => rfl), (fun h => J.f17 (un h)), (fun h => J.f18 (un h)), (fun h => J.f19 (un h)), (fun h => J.f20 (un h)), (fun h => J.f21 (un h)), (fun h => J.f22 (un h)), (fun h => J.f23 (un h)), (fun h => J.f24 (un h)), (fun h => J.f25 (un h)), (fun h => J.f26 (un h)), J.b⟩⟩
        · skip
          obtain rfl := J.f13 (haft ⟨13, .guard⟩ (by simp) rfl)
          obtain rfl := J.f15 (haft ⟨15, .data⟩ (by simp) rfl)
          obtain rfl := J.f16 (haft ⟨16, .data⟩ (by simp) rfl)
          rw [if_pos (by rfl)]
          go_simp
          exact hK _ _ ⟨_, _, _, _, _, _, _, _, _, _, _, _, _, _, _, _, _, _, _, _, _, _, _, _, _, _, _, rfl, ⟨(fun h => J.f0 (un h)), (fun h => J.f1 (un h)), (fun h => J.f2 (un h)), (fun h => J.f3 (un h)), (fun h => J.f4 (un h)), (fun h => J.f5 (un h)), (fun h => J.f6 (un h)), (fun h => J.f7 (un h)), (fun h => J.f8 (un h)), (fun h => J.f9 (un h)), (fun h => J.f10 (un h)), (fun h => J.f11 (un h)), (fun h => J.f12 (un h)), (fun h => J.f13 (un h)), (fun h => J.f14 (un h)), (fun h => J.f15 (un h)), (fun h => J.f16 (un h)), (fun _ => by first | rfl | simp), (fun h => J.f18 (un h)), (fun h => J.f19 (un h)), (fun h => J.f20 (un h)), (fun h => J.f21 (un h)), (fun h => J.f22 (un h)), (fun h => J.f23 (un h)), (fun h => J.f24 (un h)), (fun h => J.f25 (un h)), (fun h => J.f26 (un h)), J.b⟩⟩
        · skip
          obtain rfl := J.f13 (haft ⟨13, .data⟩ (by simp) rfl)
          obtain rfl := J.f17 (haft ⟨17, .data⟩ (by simp) rfl)
          go_simp
          exact hK _ _ ⟨_, _, _, _, _, _, _, _, _, _, _, _, _, _, _, _, _, _, _, _, _, _, _, _, _, _, _, rfl, ⟨(fun h => J.f0 (un h)), (fun h => J.f1 (un h)), (fun h => J.f2 (un h)), (fun h => J.f3 (un h)), (fun h => J.f4 (un h)), (fun h => J.f5 (un h)), (fun h => J.f6 (un h)), (fun h => J.f7 (un h)), (fun h => J.f8 (un h)), (fun h => J.f9 (un h)), (fun h => J.f10 (un h)), (fun h => J.f11 (un h)), (fun h => J.f12 (un h)), (fun h => J.f13 (un h)), (fun h => J.f14 (un h)), (fun h => J.f15 (un h)), (fun h => J.f16 (un h)), (fun h => J.f17 (un h)), (fun _ => rfl), (fun h => J.f19 (un h)), (fun h => J.f20 (un h)), (fun h => J.f21 (un h)), (fun h => J.f22 (un h)), (fun h => J.f23 (un h)), (fun h => J.f24 (un h)), (fun h => J.f25 (un h)), (fun h => J.f26 (un h)), J.b⟩⟩
        · skip
          obtain rfl := J.f18 (haft ⟨18, .data⟩ (by simp) rfl)
          go_simp
          exact hK _ _ ⟨_, _, _, _, _, _, _, _, _, _, _, _, _, _, _, _, _, _, _, _, _, _, _, _, _, _, _, rfl, ⟨(fun h => J.f0 (un h)), (fun h => J.f1 (un h)), (fun h => J.f2 (un h)), (fun h => J.f3 (un h)), (fun h => J.f4 (un h)), (fun h => J.f5 (un h)), (fun h => J.f6 (un h)), (fun h => J.f7 (un h)), (fun h => J.f8 (un h)), (fun h => J.f9 (un h)), (fun h => J.f10 (un h)), (fun h => J.f11 (un h)), (fun h => J.f12 (un h)), (fun h => J.f13 (un h)), (fun h => J.f14 (un h)), (fun h => J.f15 (un h)), (fun h => J.f16 (un h)), (fun h => J.f17 (un h)), (fun h => J.f18 (un h)), (fun _ => rfl), (fun h => J.f20 (un h)), (fun h => J.f21 (un h)), (fun h => J.f22 (un h)), (fun h => J.f23 (un h)), (fun h => J.f24 (un h)), (fun h => J.f25 (un h)), (fun h => J.f26 (un h)), J.b⟩⟩
        · skip
          obtain rfl := J.f19 (haft ⟨19, .guard⟩ (by simp) rfl)
          obtain ⟨q0, q1, q2, q3, q4⟩ := (HS.out.kept J.b).at
          have hl := Nat.lt_of_lt_of_le htb J.b.size
          rw [if_pos (by rfl)]
          go_simp
          exact hK _ _ ⟨_, _, _, _, _, _, _, _, _, _, _, _, _, _, _, _, _, _, _, _, _, _, _, _, _, _, _, rfl, ⟨(fun h => J.f0 (un h)), (fun h => J.f1 (un h)), (fun h => J.f2 (un h)), (fun h => J.f3 (un h)), (fun h => J.f4 (un h)), (fun h => J.f5 (un h)), (fun h => J.f6 (un h)), (fun h => J.f7 (un h)), (fun h => J.f8 (un h)), (fun h => J.f9 (un h)), (fun h => J.f10 (un h)), (fun h => J.f11 (un h)), (fun h => J.f12 (un h)), (fun h => J.f13 (un h)), (fun h => J.f14 (un h)), (fun h => J.f15 (un h)), (fun h => J.f16 (un h)), (fun h => J.f17 (un h)), (fun h => J.f18 (un h)), (fun h => J.f19 (un h)), (fun _ => rfl), (fun h => J.f21 (un h)), (fun h => J.f22 (un h)), (fun h => J.f23 (un h)), (fun h => J.f24 (un h)), (fun h => J.f25 (un h)), (fun h => J.f26 (un h)), J.b⟩⟩
        · skip
          obtain rfl := J.f19 (haft ⟨19, .guard⟩ (by simp) rfl)
          obtain rfl := J.f20 (haft ⟨20, .data⟩ (by simp) rfl)
          rw [if_pos (by rfl)]
          go_simp
          go_wp2_with (go_at_call 17; refine (KW.out W J.b).mono ?_; rintro e W2 ⟨v, rfl, hR, hb⟩; have hI := hR.at; clear hR)
          exact ⟨_, _, _, _, _, _, _, _, _, _, _, _, _, _, _, _, _, _, _, _, _, _, _, _, _, _, _, rfl, ⟨(fun h => J.f0 (un h)), (fun h => J.f1 (un h)), (fun h => (J.f2 (un h)).kept hb), (fun h => J.f3 (un h)), (fun h => J.f4 (un h)), (fun h => J.f5 (un h)), (fun h => J.f6 (un h)), (fun h => J.f7 (un h)), (fun h => J.f8 (un h)), (fun h => J.f9 (un h)), (fun h => J.f10 (un h)), (fun h => J.f11 (un h)), (fun h => J.f12 (un h)), (fun h => J.f13 (un h)), (fun h => J.f14 (un h)), (fun h => J.f15 (un h)), (fun h => J.f16 (un h)), (fun h => J.f17 (un h)), (fun h => J.f18 (un h)), (fun h => J.f19 (un h)), (fun h => J.f20 (un h)), (fun _ => hI), (fun h => J.f22 (un h)), (fun h => (J.f23 (un h)).kept hb), (fun h => J.f24 (un h)), (fun h => J.f25 (un h)), (fun h => J.f26 (un h)), k_trans J.b hb⟩⟩
        · skip
          obtain rfl := J.f19 (haft ⟨19, .guard⟩ (by simp) rfl)
          obtain ⟨q0, q1, q2, q3, q4⟩ := (HS.out.kept J.b).at
          have hl := Nat.lt_of_lt_of_le htb J.b.size
          rw [if_pos (by rfl)]
          go_simp
          exact hK _ _ ⟨_, _, _, _, _, _, _, _, _, _, _, _, _, _, _, _, _, _, _, _, _, _, _, _, _, _, _, rfl, ⟨(fun h => J.f0 (un h)), (fun h => J.f1 (un h)), (fun h => J.f2 (un h)), (fun h => J.f3 (un h)), (fun h => J.f4 (un h)), (fun h => J.f5 (un h)), (fun h => J.f6 (un h)), (fun h => J.f7 (un h)), (fun h => J.f8 (un h)), (fun h => J.f9 (un h)), (fun h => J.f10 (un h)), (fun h => J.f11 (un h)), (fun h => J.f12 (un h)), (fun h => J.f13 (un h)), (fun h => J.f14 (un h)), (fun h => J.f15 (un h)), (fun h => J.f16 (un h)), (fun h => J.f17 (un h)), (fun h => J.f18 (un h)), (fun h => J.f19 (un h)), (fun h => J.f20 (un h)), (fun h => J.f21 (un h)), (fun _ => rfl), (fun h => J.f23 (un h)), (fun h => J.f24 (un h)), (fun h => J.f25 (un h)), (fun h => J.f26 (un h)), J.b⟩⟩
        · skip
          obtain rfl := J.f19 (haft ⟨19, .guard⟩ (by simp) rfl)
          obtain rfl := J.f22 (haft ⟨22, .data⟩ (by simp) rfl)
          rw [if_pos (by rfl)]
          go_simp
          go_wp2_with (go_at_call 13; refine (KL.out W J.b).mono ?_; rintro e W2 ⟨v, rfl, hR, hb⟩; have hI := hR.at; clear hR)
          exact ⟨_, _, _, _, _, _, _, _, _, _, _, _, _, _, _, _, _, _, _, _, _, _, _, _, _, _, _, rfl, ⟨(fun h => J.f0 (un h)), (fun h => J.f1 (un h)), (fun h => (J.f2 (un h)).kept hb), (fun h => J.f3 (un h)), (fun h => J.f4 (un h)), (fun h => J.f5 (un h)), (fun h => J.f6 (un h)), (fun h => J.f7 (un h)), (fun h => J.f8 (un h)), (fun h => J.f9 (un h)), (fun h => J.f10 (un h)), (fun h => J.f11 (un h)), (fun h => J.f12 (un h)), (fun h => J.f13 (un h)), (fun h => J.f14 (un h)), (fun h => J.f15 (un h)), (fun h => J.f16 (un h)), (fun h => J.f17 (un h)), (fun h => J.f18 (un h)), (fun h => J.f19 (un h)), (fun h => J.f20 (un h)), (fun h => (J.f21 (un h)).kept hb), (fun h => J.f22 (un h)), (fun _ => hI), (fun h => J.f24 (un h)), (fun h => J.f25 (un h)), (fun h => J.f26 (un h)), k_trans J.b hb⟩⟩
        · skip
          obtain rfl := J.f19 (haft ⟨19, .guard⟩ (by simp) rfl)
          have hI := J.f21 (haft ⟨21, .data⟩ (by simp) rfl)
          have hI2 := J.f23 (haft ⟨23, .data⟩ (by simp) rfl)
          obtain ⟨aq, cq, rfl, _⟩ := hI.form
          obtain ⟨ar2, cr2, rfl, _⟩ := hI2.form
          rw [if_pos (by rfl)]
          go_simp
          go_wp2_with (go_at_call 16; refine (pwInts_any _ _ (leastL t) W hI hI2).mono ?_; rintro e W2 ⟨rfl, nd, hE⟩; have hb : Below W.heap.size W W2 := (hE ▸ k_drewN (Below.refl _ _) nd); clear hE)
          exact ⟨_, _, _, _, _, _, _, _, _, _, _, _, _, _, _, _, _, _, _, _, _, _, _, _, _, _, _, rfl, ⟨(fun h => J.f0 (un h)), (fun h => J.f1 (un h)), (fun h => (J.f2 (un h)).kept hb), (fun h => J.f3 (un h)), (fun h => J.f4 (un h)), (fun h => J.f5 (un h)), (fun h => J.f6 (un h)), (fun h => J.f7 (un h)), (fun h => J.f8 (un h)), (fun h => J.f9 (un h)), (fun h => J.f10 (un h)), (fun h => J.f11 (un h)), (fun h => J.f12 (un h)), (fun h => J.f13 (un h)), (fun h => J.f14 (un h)), (fun h => J.f15 (un h)), (fun h => J.f16 (un h)), (fun h => J.f17 (un h)), (fun h => J.f18 (un h)), (fun h => J.f19 (un h)), (fun h => J.f20 (un h)), (fun h => (J.f21 (un h)).kept hb), (fun h => J.f22 (un h)), (fun h => (J.f23 (un h)).kept hb), (fun _ => rfl), (fun h => J.f25 (un h)), (fun h => J.f26 (un h)), k_trans J.b hb⟩⟩
        · skip
          obtain rfl := J.f19 (haft ⟨19, .data⟩ (by simp) rfl)
          obtain rfl := J.f24 (haft ⟨24, .data⟩ (by simp) rfl)
          go_simp
          exact hK _ _ ⟨_, _, _, _, _, _, _, _, _, _, _, _, _, _, _, _, _, _, _, _, _, _, _, _, _, _, _, rfl, ⟨(fun h => J.f0 (un h)), (fun h => J.f1 (un h)), (fun h => J.f2 (un h)), (fun h => J.f3 (un h)), (fun h => J.f4 (un h)), (fun h => J.f5 (un h)), (fun h => J.f6 (un h)), (fun h => J.f7 (un h)), (fun h => J.f8 (un h)), (fun h => J.f9 (un h)), (fun h => J.f10 (un h)), (fun h => J.f11 (un h)), (fun h => J.f12 (un h)), (fun h => J.f13 (un h)), (fun h => J.f14 (un h)), (fun h => J.f15 (un h)), (fun h => J.f16 (un h)), (fun h => J.f17 (un h)), (fun h => J.f18 (un h)), (fun h => J.f19 (un h)), (fun h => J.f20 (un h)), (fun h => J.f21 (un h)), (fun h => J.f22 (un h)), (fun h => J.f23 (un h)), (fun h => J.f24 (un h)), (fun _ => rfl), (fun h => J.f26 (un h)), J.b⟩⟩
        · skip
          obtain rfl := J.f25 (haft ⟨25, .data⟩ (by simp) rfl)
          go_simp
          exact hK _ _ ⟨_, _, _, _, _, _, _, _, _, _, _, _, _, _, _, _, _, _, _, _, _, _, _, _, _, _, _, rfl, ⟨(fun h => J.f0 (un h)), (fun h => J.f1 (un h)), (fun h => J.f2 (un h)), (fun h => J.f3 (un h)), (fun h => J.f4 (un h)), (fun h => J.f5 (un h)), (fun h => J.f6 (un h)), (fun h => J.f7 (un h)), (fun h => J.f8 (un h)), (fun h => J.f9 (un h)), (fun h => J.f10 (un h)), (fun h => J.f11 (un h)), (fun h => J.f12 (un h)), (fun h => J.f13 (un h)), (fun h => J.f14 (un h)), (fun h => J.f15 (un h)), (fun h => J.f16 (un h)), (fun h => J.f17 (un h)), (fun h => J.f18 (un h)), (fun h => J.f19 (un h)), (fun h => J.f20 (un h)), (fun h => J.f21 (un h)), (fun h => J.f22 (un h)), (fun h => J.f23 (un h)), (fun h => J.f24 (un h)), (fun h => J.f25 (un h)), (fun _ => rfl), J.b⟩⟩

theorem lawColFloor (a : Option Addr) (len cap : Nat) (w : World) (h : IsCode w a len cap) :
    Calls Tryz.prog 3 #[.slice a len cap] w fun e w' => e = .returned (.bool true) ∧ Below w.heap.size w w' := by
  by_cases hl : len ≤ 1048576
  · exact lawColFloor_walk a len cap hl w h
  · have hl' : (1048576 : Int) < (len : Int) := by omega
    clear h
    go_enter Tryz.func3, Tryz.ntmps3
    go_wp2
    go_ret
    exact ⟨rfl, Below.refl _ _⟩
end Go.Proofs.YtfkkhfiiokhnaaeGreat
