/-
  PROVED HERE: what slices.Delete answers of cells that are owned, one of them taken out: the others, in their block; nothing else that was in memory is turned.
-/
import Derived.Test.YtggmjiddadjilajB7
import Derived.Test.YtggmjiddadjilajB2
import Derived.Test.YtggmjiddadjilajB10
import Derived.WalkLawsBesides
import Derived.WalkSpells
import Derived.Deep.RegionWith
import Derived.Deep.QuietTactic
import Derived.BigQuiet
import Derived.Deep.Cut
import Derived.Laws.OwnMore
import Derived.Laws.IdiomCopy
namespace Go.Proofs.Ytggmjiddadjilaj
open Go.RowKit
structure DlJ (g n cap a B : Nat) (A : Addr) (cs : List C) (W3 : World) (L : Nat → Bool) (W : World) (v0 v20 v21 v22 v23 v24 v25 v26 : Value) : Prop where
  f0 : L 0 = true → v20 = .slice (some ⟨g, 0, none⟩) n cap
  f1 : L 1 = true → v21 = .int .i64 a
  f2 : L 2 = true → v22 = .slice (some ⟨g, 0, none⟩) a cap
  f3 : L 3 = true → v23 = .slice (some ⟨g, 0, none⟩) n cap
  f4 : L 4 = true → v24 = .int .i64 ((a : Int) + 1)
  f5 : L 5 = true → v25 = .slice (some A) (n - (a + 1)) (cap - (a + 1))
  f6 : L 6 = true → v26 = .slice (some ⟨g, 0, none⟩) (a + (n - (a + 1))) cap ∧ OwnC W B (.slice (some ⟨g, 0, none⟩) (a + (n - (a + 1))) cap) (cs.eraseIdx a) ∧ W3.grownBy W (some g)
  f7 : L 7 = true → v0 = .slice (some ⟨g, 0, none⟩) (a + (n - (a + 1))) cap
  b : L 6 = false → Below W3.heap.size W3 W
  n0 : L 7 = false → v0 = .slice (some ⟨g, 0, none⟩) n cap

set_option maxRecDepth 100000 in
set_option maxHeartbeats 4000000 in
theorem deleteCells (g cap a : Nat) (cs : List C) (n : Nat) (hn : cs.length = n) (ha : a < n) (B : Nat) (w : World) (h : OwnC w B (.slice (some ⟨g, 0, none⟩) n cap) cs) :
    Calls Try.prog 58 #[.slice (some ⟨g, 0, none⟩) n cap, .int .i64 a, .int .i64 ((a : Int) + 1)] w fun e w' => e = .returned (.slice (some ⟨g, 0, none⟩) (n - 1) cap) ∧ OwnC w' B (.slice (some ⟨g, 0, none⟩) (n - 1) cap) (cs.eraseIdx a) ∧ w.grownBy w' (some g) := by
  have hmx : Try.prog.follows .mixedOrders = true := by kernel_rfl
  obtain ⟨i0, hi0, hz0, hz1, hz2⟩ := info_parts infoCelln
  have hb : n ≤ cap ∧ cap ≤ 9223372036854775807 ∧ n * 11 ≤ cap * 11 := by
    rcases h.2 with ⟨e, _⟩ | ⟨g', cap', cur, e, hg, hc, a1, a2, a3, a4⟩
    · simp at e
    · simp only [Value.slice.injEq, Option.some.injEq, Addr.mk.injEq, and_true] at e
      obtain ⟨_, _, rfl⟩ := e
      unfold maxLen at a2
      rw [hn] at a1
      exact ⟨a1, a2, Nat.mul_le_mul_right 11 a1⟩
  obtain ⟨hnc, hcm, _⟩ := hb
  have HTk := Hid.intro (OwnC.take h hn (Nat.le_of_lt ha))
  have HNl : Hid (((cs.drop (a + 1)).flatMap cellVs).length = (n - (a + 1)) * 11) := by
    show _ = _
    rw [flat_len cellVs 11 (fun _ => rfl), List.length_drop, hn]
  have hcell : ∀ i, (hi : i < cs.length) → ∀ j, j < 11 → w.cell? ⟨g, i * 11 + j, none⟩ = (cellVs cs[i])[j]? := fun i hi j hj => by
    rcases h.2 with ⟨e, _⟩ | ⟨g', cap', cur, e, hg, hc, a1, a2, a3, a4⟩
    · simp at e
    · simp only [Value.slice.injEq, Option.some.injEq, Addr.mk.injEq, and_true] at e
      obtain ⟨rfl, _, rfl⟩ := e
      have e := flat_get cellVs 11 (fun _ => rfl) cs i hi j hj
      rw [← a4, List.getElem?_take_of_lt (by omega), Array.getElem?_toList] at e
      rw [cellB hc, e]
  have hgl : g < w.heap.size := (row_lt h (b := g) rfl).2
  obtain ⟨A, hA, hnews⟩ : ∃ A : Addr, (if cap = a + 1 then some (⟨g, 0, none⟩ : Addr) else some ⟨g, (a + 1) * 11, none⟩) = some A ∧ ∀ W, Below w.heap.size w W → ∀ j u, ((cs.drop (a + 1)).flatMap cellVs)[j]? = some u → W.cell? (A.add j) = some u := by
    by_cases hca : cap = a + 1
    · refine ⟨⟨g, 0, none⟩, by rw [if_pos hca], fun W _ j u hu => ?_⟩
      have : cs.drop (a + 1) = [] := List.drop_eq_nil_of_le (by omega)
      rw [this] at hu
      simp at hu
    · refine ⟨⟨g, (a + 1) * 11, none⟩, by rw [if_neg hca], fun W hW => ?_⟩
      refine news_flat cellVs 11 (fun _ => rfl) (by decide) (cs.drop (a + 1)) (a := some ⟨g, (a + 1) * 11, none⟩) (fun i hi => ⟨g, (a + 1) * 11, rfl, fun m hm => ?_⟩) _ rfl
      rw [List.length_drop] at hi
      rw [hW.cell (p := ⟨g, (a + 1) * 11 + i * 11 + m, none⟩) hgl, show (a + 1) * 11 + i * 11 + m = (a + 1 + i) * 11 + m by omega, hcell (a + 1 + i) (by omega) m hm, List.getElem_drop]
  have HNw := Hid.intro hnews
  have HEr : Hid (∀ {w' : World}, w'.ownsRow B 41 11 (.slice (some ⟨g, 0, none⟩) (a + (n - (a + 1))) cap) (a + (n - (a + 1))) ((cs.take a).flatMap cellVs ++ (cs.drop (a + 1)).flatMap cellVs) → OwnC w' B (.slice (some ⟨g, 0, none⟩) (a + (n - (a + 1))) cap) (cs.eraseIdx a)) := fun {w'} ho => by
    have hl : (cs.eraseIdx a).length = a + (n - (a + 1)) := by rw [List.length_eraseIdx_of_lt (by omega)]; omega
    unfold OwnC
    rw [hl, List.eraseIdx_eq_take_drop_succ, List.flatMap_append]
    exact ho
  have hlE : (cs.eraseIdx a).length = a + (n - (a + 1)) := by rw [List.length_eraseIdx_of_lt (by omega)]; omega
  have HlE := Hid.intro hlE
  have hac : a + 1 ≤ cap := by omega
  have hac0 : a ≤ cap := by omega
  have han : a + 1 ≤ n := by omega
  have hanI : (a : Int) + 1 ≤ (n : Int) := by omega
  clear h hcell hnews hz0 hz2 hn hlE
  go_enter Try.func58, Try.ntmps58
  go_upto_region 5 with fail
  generalize Value.bool ((a : Int) == (a : Int) + 1) = bv
  refine wp_region_inv2 (fun L act W => ∃ v0 v20 v21 v22 v23 v24 v25 v26 : Value, act = ⟨#[v0, .int .i64 a, .int .i64 ((a : Int) + 1), undef, undef, undef, .slice none 0 0, .int .i64 n, .slice (some ⟨g, 0, none⟩) n cap, .int .i64 a, .int .i64 ((a : Int) + 1), .slice (some ⟨g, 0, none⟩) n cap, .int .i64 n, .slice (some ⟨g, a * 11, none⟩) 1 (n - a), .int .i64 a, .int .i64 ((a : Int) + 1), bv, undef, .slice (some ⟨g, 0, none⟩) n cap, .int .i64 n, v20, v21, v22, v23, v24, v25, v26, undef, undef, undef, undef, undef, undef], []⟩ ∧ DlJ g n cap a B A cs w L W v0 v20 v21 v22 v23 v24 v25 v26) hmx (by kernel_rfl) ?hs ?hd ?h0
  case h0 => exact ⟨_, _, _, _, _, _, _, _, rfl, ⟨(fun h => by cases h), (fun h => by cases h), (fun h => by cases h), (fun h => by cases h), (fun h => by cases h), (fun h => by cases h), (fun h => by cases h), (fun h => by cases h), (fun _ => k_drew (Below.refl _ _)), (fun _ => rfl)⟩⟩
  case hd =>
    intro L act W hJ hall
    obtain ⟨v0, v20, v21, v22, v23, v24, v25, v26, ha, J⟩ := hJ
    subst ha
    obtain ⟨hx6, hE, hG⟩ := J.f6 (hall 6 (by decide))
    clear hx6
    obtain rfl := J.f7 (hall 7 (by decide))
    clear J hall
    obtain ⟨k, hkE⟩ : ∃ k, a + (n - (a + 1)) = k := ⟨_, rfl⟩
    have hlk := HlE.out
    rw [hkE] at hE hlk ⊢
    obtain rfl : n = k + 1 := by omega
    have HlK := Hid.intro hlk
    obtain ⟨cur, hcur, hcs⟩ : ∃ cur, W.heap[g]? = some (.cells cur 41) ∧ cur.size = cap * 11 := by
      rcases hE.2 with ⟨e, _⟩ | ⟨g', cap', cur, e, hg, hc, a1, a2, a3, a4⟩
      · simp at e
      · simp only [Value.slice.injEq, Option.some.injEq, Addr.mk.injEq, and_true] at e
        obtain ⟨rfl, _, rfl⟩ := e
        exact ⟨cur, hc, a3⟩
    have hcl : ∀ ty, (Builtin.clear_ #[50] ty #[.slice (some ⟨g, k * 11, none⟩) 1 (cap - k)]).run Try.prog W = .ok (.tuple #[]) (W.setCells g (k * 11) [.string ⟨#[]⟩, .int .i64 0, .int .i64 0, .int .i64 0, .int .i64 0, .int .i64 0, .int .i64 0, .int .i64 0, .int .i64 0, .int .i64 0, .int .i64 0]) := fun ty => clear_one W ty g (k * 11) (cap - k) cur hcur (by omega)
    have HEk : Hid (OwnC (W.setCells g (k * 11) [.string ⟨#[]⟩, .int .i64 0, .int .i64 0, .int .i64 0, .int .i64 0, .int .i64 0, .int .i64 0, .int .i64 0, .int .i64 0, .int .i64 0, .int .i64 0]) B (.slice (some ⟨g, 0, none⟩) k cap) (cs.eraseIdx a)) := by
      show OwnC _ _ _ _
      simp only [World.setCells]
      exact (OwnC.tail (OwnC.tail (OwnC.tail (OwnC.tail (OwnC.tail (OwnC.tail (OwnC.tail (OwnC.tail (OwnC.tail (OwnC.tail (OwnC.tail hE HlK.out (by omega) _) HlK.out (by omega) _) HlK.out (by omega) _) HlK.out (by omega) _) HlK.out (by omega) _) HlK.out (by omega) _) HlK.out (by omega) _) HlK.out (by omega) _) HlK.out (by omega) _) HlK.out (by omega) _) HlK.out (by omega) _)
    have HGk : Hid (w.grownBy (W.setCells g (k * 11) [.string ⟨#[]⟩, .int .i64 0, .int .i64 0, .int .i64 0, .int .i64 0, .int .i64 0, .int .i64 0, .int .i64 0, .int .i64 0, .int .i64 0, .int .i64 0]) (some g)) := by
      show World.grownBy _ _ _
      simp only [World.setCells]
      exact (grown_set (grown_set (grown_set (grown_set (grown_set (grown_set (grown_set (grown_set (grown_set (grown_set (grown_set hG rfl _) rfl _) rfl _) rfl _) rfl _) rfl _) rfl _) rfl _) rfl _) rfl _) rfl _)
    clear hE hG hlk HlE HlK HTk HNl HNw HEr hkE hcur hA
    generalize W.setCells g (k * 11) [.string ⟨#[]⟩, .int .i64 0, .int .i64 0, .int .i64 0, .int .i64 0, .int .i64 0, .int .i64 0, .int .i64 0, .int .i64 0, .int .i64 0, .int .i64 0] = W9 at hcl HEk HGk
    go_wp2
    go_ret
    exact ⟨rfl, HEk.out, HGk.out⟩
  case hs =>
    intro L act W i o hJ hcl ho hLi haft K hK
    obtain ⟨v0, v20, v21, v22, v23, v24, v25, v26, ha, J⟩ := hJ
    subst ha
    have hi' : i < 8 := by
      have := (Array.getElem?_eq_some_iff.1 ho).1
      simpa using this
    rcases (by omega : i = 0 ∨ i = 1 ∨ i = 2 ∨ i = 3 ∨ i = 4 ∨ i = 5 ∨ i = 6 ∨ i = 7) with rfl | rfl | rfl | rfl | rfl | rfl | rfl | rfl
    all_goals
      simp only [List.getElem?_toArray, List.getElem?_cons_zero, List.getElem?_cons_succ, Option.some.injEq] at ho
      subst ho
      clear hi'
    · skip
      have hN := (hcl 6 2 (by kernel_rfl) (hcl 2 0 (by kernel_rfl) hLi))
      have hB := J.b hN
      obtain rfl := J.n0 ((hcl 7 6 (by kernel_rfl) (hcl 6 2 (by kernel_rfl) (hcl 2 0 (by kernel_rfl) hLi))))
      go_simp
      exact hK _ _ ⟨_, _, _, _, _, _, _, _, rfl, ⟨(fun _ => rfl), (fun h => J.f1 (un h)), (fun h => absurd (((hcl 2 0 (by kernel_rfl) hLi)).symm.trans (un h)) (by simp)), (fun h => J.f3 (un h)), (fun h => J.f4 (un h)), (fun h => J.f5 (un h)), (fun h => absurd (((hcl 6 2 (by kernel_rfl) (hcl 2 0 (by kernel_rfl) hLi))).symm.trans (un h)) (by simp)), (fun h => absurd (((hcl 7 6 (by kernel_rfl) (hcl 6 2 (by kernel_rfl) (hcl 2 0 (by kernel_rfl) hLi)))).symm.trans (un h)) (by simp)), (fun _ => hB), J.n0⟩⟩
    · skip
      have hN := (hcl 6 2 (by kernel_rfl) (hcl 2 1 (by kernel_rfl) hLi))
      have hB := J.b hN
      go_simp
      exact hK _ _ ⟨_, _, _, _, _, _, _, _, rfl, ⟨(fun h => J.f0 (un h)), (fun _ => rfl), (fun h => absurd (((hcl 2 1 (by kernel_rfl) hLi)).symm.trans (un h)) (by simp)), (fun h => J.f3 (un h)), (fun h => J.f4 (un h)), (fun h => J.f5 (un h)), (fun h => absurd (((hcl 6 2 (by kernel_rfl) (hcl 2 1 (by kernel_rfl) hLi))).symm.trans (un h)) (by simp)), (fun h => absurd (((hcl 7 6 (by kernel_rfl) (hcl 6 2 (by kernel_rfl) (hcl 2 1 (by kernel_rfl) hLi)))).symm.trans (un h)) (by simp)), (fun _ => hB), J.n0⟩⟩
    · skip
      have hN := (hcl 6 2 (by kernel_rfl) hLi)
      have hB := J.b hN
      obtain rfl := J.f0 (haft ⟨0, .data⟩ (by simp) rfl)
      obtain rfl := J.f1 (haft ⟨1, .data⟩ (by simp) rfl)
      go_simp
      exact hK _ _ ⟨_, _, _, _, _, _, _, _, rfl, ⟨(fun h => J.f0 (un h)), (fun h => J.f1 (un h)), (fun _ => rfl), (fun h => J.f3 (un h)), (fun h => J.f4 (un h)), (fun h => J.f5 (un h)), (fun h => absurd (((hcl 6 2 (by kernel_rfl) hLi)).symm.trans (un h)) (by simp)), (fun h => absurd (((hcl 7 6 (by kernel_rfl) (hcl 6 2 (by kernel_rfl) hLi))).symm.trans (un h)) (by simp)), (fun _ => hB), J.n0⟩⟩
    · skip
      have hN := (hcl 6 5 (by kernel_rfl) (hcl 5 3 (by kernel_rfl) hLi))
      have hB := J.b hN
      obtain rfl := J.n0 ((hcl 7 6 (by kernel_rfl) (hcl 6 5 (by kernel_rfl) (hcl 5 3 (by kernel_rfl) hLi))))
      go_simp
      exact hK _ _ ⟨_, _, _, _, _, _, _, _, rfl, ⟨(fun h => J.f0 (un h)), (fun h => J.f1 (un h)), (fun h => J.f2 (un h)), (fun _ => rfl), (fun h => J.f4 (un h)), (fun h => absurd (((hcl 5 3 (by kernel_rfl) hLi)).symm.trans (un h)) (by simp)), (fun h => absurd (((hcl 6 5 (by kernel_rfl) (hcl 5 3 (by kernel_rfl) hLi))).symm.trans (un h)) (by simp)), (fun h => absurd (((hcl 7 6 (by kernel_rfl) (hcl 6 5 (by kernel_rfl) (hcl 5 3 (by kernel_rfl) hLi)))).symm.trans (un h)) (by simp)), (fun _ => hB), J.n0⟩⟩
    · skip
      have hN := (hcl 6 5 (by kernel_rfl) (hcl 5 4 (by kernel_rfl) hLi))
      have hB := J.b hN
      go_simp
      exact hK _ _ ⟨_, _, _, _, _, _, _, _, rfl, ⟨(fun h => J.f0 (un h)), (fun h => J.f1 (un h)), (fun h => J.f2 (un h)), (fun h => J.f3 (un h)), (fun _ => rfl), (fun h => absurd (((hcl 5 4 (by kernel_rfl) hLi)).symm.trans (un h)) (by simp)), (fun h => absurd (((hcl 6 5 (by kernel_rfl) (hcl 5 4 (by kernel_rfl) hLi))).symm.trans (un h)) (by simp)), (fun h => absurd (((hcl 7 6 (by kernel_rfl) (hcl 6 5 (by kernel_rfl) (hcl 5 4 (by kernel_rfl) hLi)))).symm.trans (un h)) (by simp)), (fun _ => hB), J.n0⟩⟩
    · skip
      have hN := (hcl 6 5 (by kernel_rfl) hLi)
      have hB := J.b hN
      obtain rfl := J.f3 (haft ⟨3, .data⟩ (by simp) rfl)
      obtain rfl := J.f4 (haft ⟨4, .data⟩ (by simp) rfl)
      go_simp
      exact hK _ _ ⟨_, _, _, _, _, _, _, _, rfl, ⟨(fun h => J.f0 (un h)), (fun h => J.f1 (un h)), (fun h => J.f2 (un h)), (fun h => J.f3 (un h)), (fun h => J.f4 (un h)), (fun _ => by first | rfl | rw [HAd.out]), (fun h => absurd (((hcl 6 5 (by kernel_rfl) hLi)).symm.trans (un h)) (by simp)), (fun h => absurd (((hcl 7 6 (by kernel_rfl) (hcl 6 5 (by kernel_rfl) hLi))).symm.trans (un h)) (by simp)), (fun _ => hB), J.n0⟩⟩
    · skip
      have hN := hLi
      have hB := J.b hN
      obtain rfl := J.f2 (haft ⟨2, .data⟩ (by simp) rfl)
      obtain rfl := J.f5 (haft ⟨5, .data⟩ (by simp) rfl)
      rw [if_pos (by rfl)]
      refine wp_append_fits _ (.tmp 22) (.tmp 25) 50 rfl B 41 i0 11 Try.underlying50 hi0 hz1 g a cap _ rfl (row_kept9 HTk.out hB) A (n - (a + 1)) (cap - (a + 1)) ((cs.drop (a + 1)).flatMap cellVs) rfl HNl.out (HNw.out W hB) (one_cells _) (by omega) ?_
      intro w5 hown' hgrow'
      have hE := HEr.out hown'
      have hG := grown_trans (grown_below hB) hgrow'
      exact hK _ _ ⟨_, _, _, _, _, _, _, _, rfl, ⟨(fun h => J.f0 (un h)), (fun h => J.f1 (un h)), (fun h => J.f2 (un h)), (fun h => J.f3 (un h)), (fun h => J.f4 (un h)), (fun h => J.f5 (un h)), (fun _ => ⟨rfl, hE, hG⟩), (fun h => absurd (((hcl 7 6 (by kernel_rfl) hLi)).symm.trans (un h)) (by simp)), (fun h => absurd (h.symm.trans upd_self) (by simp)), J.n0⟩⟩
    · skip
      obtain ⟨rfl, _, _⟩ := J.f6 (haft ⟨6, .data⟩ (by simp) rfl)
      go_simp
      exact hK _ _ ⟨_, _, _, _, _, _, _, _, rfl, ⟨(fun h => J.f0 (un h)), (fun h => J.f1 (un h)), (fun h => J.f2 (un h)), (fun h => J.f3 (un h)), (fun h => J.f4 (un h)), (fun h => J.f5 (un h)), (fun h => J.f6 (un h)), (fun _ => rfl), (fun h => J.b (un h)), (fun h => absurd (h.symm.trans upd_self) (by simp))⟩⟩
end Go.Proofs.Ytggmjiddadjilaj
