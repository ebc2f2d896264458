/-
  PROVED HERE: l20Weights and DrawShrShare draw a number and a list of numbers; nothing that was in memory is turned but the reader's own place.
-/
import Derived.Test.YtgcobajekffmoacRd
import Derived.Test.YtgcobajekffmoacInts
import Derived.Deep.RegionWith
namespace Go.Proofs.Ytgcobajekffmoac
open Go.RowKit

theorem bk_rowI {r : Nat} {w w' : World} {base n : Nat} {e : TypeId} {v : Value} {xs : List Value} (h : w.ownsRow base e 1 v n xs) (k : Bk r w w') (hr : r < base) : w'.ownsRow base e 1 v n xs :=
  ⟨h.1, h.2.elim Or.inl (fun ⟨g, cap, cur, hv, hg, hc, q⟩ => Or.inr ⟨g, cap, cur, hv, hg, (k.block g (Array.getElem?_eq_some_iff.1 hc).1 (by omega)).trans hc, q⟩)⟩
theorem lit7 (m k : Int) (hm0 : 0 ≤ m) (hm1 : m < 20) (h0 : 0 ≤ k) (h1 : k < 7) : ∃ v : Int, 0 ≤ v ∧ v ≤ 50 ∧ (#[.int .i64 0, .int .i64 1, .int .i64 2, .int .i64 3, .int .i64 7, .int .i64 50, .int .i64 m] : Array Value)[k.toNat]? = some (.int .i64 v) := by
  rcases (by omega : k = 0 ∨ k = 1 ∨ k = 2 ∨ k = 3 ∨ k = 4 ∨ k = 5 ∨ k = 6) with rfl | rfl | rfl | rfl | rfl | rfl | rfl
  · exact ⟨0, by omega, by omega, rfl⟩
  · exact ⟨1, by omega, by omega, rfl⟩
  · exact ⟨2, by omega, by omega, rfl⟩
  · exact ⟨3, by omega, by omega, rfl⟩
  · exact ⟨7, by omega, by omega, rfl⟩
  · exact ⟨50, by omega, by omega, rfl⟩
  · exact ⟨m, by omega, by omega, rfl⟩
theorem lit3 (k : Int) (h0 : 0 ≤ k) (h1 : k < 3) : ∃ v : Int, -1 ≤ v ∧ v ≤ 100001 ∧ (#[.int .i64 (-1), .int .i64 100000, .int .i64 100001] : Array Value)[k.toNat]? = some (.int .i64 v) := by
  rcases (by omega : k = 0 ∨ k = 1 ∨ k = 2) with rfl | rfl | rfl
  · exact ⟨-1, by omega, by omega, rfl⟩
  · exact ⟨100000, by omega, by omega, rfl⟩
  · exact ⟨100001, by omega, by omega, rfl⟩
theorem lit8 (m k : Int) (hm0 : 0 ≤ m) (hm1 : m < 200) (h0 : 0 ≤ k) (h1 : k < 8) : ∃ v : Int, -1 ≤ v ∧ v ≤ 100000 ∧ (#[.int .i64 0, .int .i64 1, .int .i64 5, .int .i64 17, .int .i64 100, .int .i64 100000, .int .i64 (-1), .int .i64 m] : Array Value)[k.toNat]? = some (.int .i64 v) := by
  rcases (by omega : k = 0 ∨ k = 1 ∨ k = 2 ∨ k = 3 ∨ k = 4 ∨ k = 5 ∨ k = 6 ∨ k = 7) with rfl | rfl | rfl | rfl | rfl | rfl | rfl | rfl
  · exact ⟨0, by omega, by omega, rfl⟩
  · exact ⟨1, by omega, by omega, rfl⟩
  · exact ⟨5, by omega, by omega, rfl⟩
  · exact ⟨17, by omega, by omega, rfl⟩
  · exact ⟨100, by omega, by omega, rfl⟩
  · exact ⟨100000, by omega, by omega, rfl⟩
  · exact ⟨-1, by omega, by omega, rfl⟩
  · exact ⟨m, by omega, by omega, rfl⟩
theorem infoIj : (Try.prog.info? 3).map (fun i => (i.zero, i.size, i.bytes)) = some (some (Value.int .i64 0), 1, 8) := by kernel_rfl
theorem new_cell {r : Nat} {w w' : World} {cs : Array Value} {t : TypeId} (k : Bk r (w.alloc (.cells cs t)) w') (hr : r < w.heap.size) (i : Nat) {v : Value} (hv : cs[i]? = some v) : w'.cell? ⟨w.heap.size, i, none⟩ = some v :=
  (cellB ((k.block w.heap.size (by simp) (by omega)).trans (newestB _ _))).trans hv
/-- what an append of one number leaves -/
theorem app_left {w w3 w4 : World} {r B : Nat} {l : List Int} {x : Int} {o v' : Value} (hr : r < w.heap.size) (hO : w3.ownsRow w.heap.size 3 1 o l.length (l.map (Value.int .i64))) (hR : Rd w3 r B) (hB : Bk r w w3)
    (hg : (w3.alloc (.cells #[.int .i64 x] 3)).grownBy w4 o.ownBlock) (hown : w4.ownsRow w.heap.size 3 1 v' (l.length + 1) (l.map (Value.int .i64) ++ [.int .i64 x])) :
    Rd w4 r B ∧ Bk r w w4 ∧ w4.ownsRow w.heap.size 3 1 v' (l ++ [x]).length ((l ++ [x]).map (Value.int .i64)) := by
  have hlt := hR.lt
  have hA := hB.alloc (.cells #[.int .i64 x] 3)
  refine ⟨?_, ?_, by rw [List.length_append, List.map_append]; exact hown⟩
  · refine (hR.alloc (.cells #[.int .i64 x] 3)).keep (fun k hk => hg.block k (by simp; omega) (fun hb => ?_))
    have := (hO.lt k hb.symm).1
    omega
  · refine ⟨hg.os.trans hA.os, hg.tape.trans hA.tape, hg.output.trans hA.output, Nat.le_trans hA.size hg.size, fun k hk hkr => (hg.block k (Nat.lt_of_lt_of_le hk hA.size) (fun hb => ?_)).trans (hA.block k hk hkr)⟩
    have := (hO.lt k hb.symm).1
    omega

set_option maxRecDepth 100000 in
set_option maxHeartbeats 1000000 in
theorem l20Weights_any (r B : Nat) (n : Int) (w : World) (h : Rd w r B) (hB : B ≤ 1000) :
    Calls Try.prog 37 #[.pointer (some ⟨r, 0, none⟩), .int .i64 n] w fun e w' => ∃ (v : Value) (l : List Int), e = .returned v ∧ l.length ≤ 8 ∧ (∀ x ∈ l, -1 ≤ x ∧ x ≤ 100001) ∧ RowI w' w.heap.size w'.heap.size v l ∧ Rd w' r (B + 20) ∧ Bk r w w' := by
  obtain ⟨i0, hi, hz0, hz1, hz2⟩ := info_parts infoIj
  have hr := h.lt
  have H := Hid.intro h
  clear h
  go_enter Try.func37, Try.ntmps37
  go_wp2_with fail
  refine (pick_any _ B _ _ (H.out.alloc _) (by omega)).mono ?_
  rintro e w2 ⟨m0, rfl, hm0, hR2, hb2⟩
  obtain ⟨m1, m2⟩ := hm0 (by omega)
  obtain ⟨M, rfl⟩ := Int.eq_ofNat_of_zero_le m1
  have O2 := Hid.intro (bk_rowI (World.ownsRow_made (base := w.heap.size) (e := 3) (size := 1) w #[] 0 (Nat.le_refl _) (Nat.zero_le _) rfl) hb2 hr)
  have R2 := Hid.intro hR2
  have K2 := Hid.intro (((Bk.refl r w).alloc (.cells #[] 3)).trans hb2)
  clear hR2 hb2 hm0 m1
  go_wp2_with fail
  go_loopw [5, 6] (fun o q W => ∃ (m : Nat) (l : List Int), q = .int .i64 m ∧ m + l.length ≤ 7 ∧ Hid (∀ x ∈ l, -1 ≤ x ∧ x ≤ 100001) ∧ Hid (W.ownsRow w.heap.size 3 1 o l.length (l.map (Value.int .i64))) ∧ Hid (Rd W r (B + 1 + 2 * l.length)) ∧ Hid (Bk r w W)) (fun _ q _ => (intOf q).toNat)
  case atStart => exact ⟨M, [], rfl, by simp; omega, fun x hx => (by cases hx), O2.out, R2.out, K2.out⟩
  case round =>
    obtain ⟨m, l, rfl, hms, HS, HO, HR, HB⟩ := hrel
    by_cases hm : 0 < m
    · have hm' : (0 : Int) < (m : Int) := by omega
      go_wp2_with fail
      refine (pick_any _ _ _ _ HR.out (by omega)).mono ?_
      rintro e w3 ⟨m20, rfl, hm20, hR3, hb3⟩
      obtain ⟨ma, mb⟩ := hm20 (by omega)
      have hO3 := bk_rowI HO.out hb3 hr
      have hB3 := HB.out.trans hb3
      go_wp2_with fail
      refine (pick_any _ _ _ _ (hR3.alloc _) (by omega)).mono ?_
      rintro e w4 ⟨k7, rfl, hk7, hR4, hb4⟩
      obtain ⟨ka, kb⟩ := hk7 (by omega)
      obtain ⟨x, hx1, hx2, hx3⟩ := lit7 m20 k7 ma mb ka kb
      have hcv := new_cell hb4 (Nat.lt_of_lt_of_le hr hB3.size) _ hx3
      have hO4 := bk_rowI (hO3.alloc _) hb4 hr
      have hB4 := (hB3.alloc _).trans hb4
      have hsz := hB4.size
      clear hx3 hb4 hm20 hk7 hb3 hR3 hO3
      go_wp2_with (at_builtin; refine wpList_append_own _ rfl _ _ 36 rfl w.heap.size 3 i0 (.int .i64 0) 1 8 Try.underlying36 hi hz0 hz1 hz2 rfl (by decide) _ _ _ rfl (hO4.alloc _) ⟨w4.heap.size, 0, none⟩ 1 1 [.int .i64 x] rfl rfl ?c1 ?c2 ?c3 ?c4 ?c5 ?_)
      case c1 =>
        intro i u hi
        match i, hi with
        | 0, hi => simp at hi; subst hi; simp [Addr.add]
      case c2 => intro u hu; simp at hu; subst hu; rfl
      case c3 => unfold maxLen; omega
      case c4 => omega
      case c5 => simp; omega
      intro v' w5 hown' hgrow' _
      obtain ⟨hR5, hB5, hO5⟩ := app_left hr hO4 hR4 hB4 hgrow' hown'
      have HR5 : Hid (Rd w5 r (B + 1 + 2 * (l ++ [x]).length)) := hR5.mono (by simp; omega)
      have HB5 := Hid.intro hB5
      have HO5 := Hid.intro hO5
      have HS5 : Hid (∀ y ∈ l ++ [x], -1 ≤ y ∧ y ≤ 100001) := fun y hy => by
        rcases List.mem_append.1 hy with hy | hy
        · exact HS.out y hy
        · simp at hy; subst hy; omega
      obtain ⟨g', cap', rfl⟩ := Joins.ownsRow_form hown' (by omega)
      clear hown' hgrow' hO4 hB4 hR4 hR5 hB5 hO5 hB3
      have hms4 : (m - 1) + (l ++ [x]).length ≤ 7 := by simp; omega
      go_wp2
      go_roundw
      case rel => exact ⟨m - 1, l ++ [x], by go_num, hms4, HS5, HO5, HR5, HB5⟩
      case measure => simp [intOf]; omega
    · obtain rfl : m = 0 := by omega
      obtain ⟨aa, cc, rfl⟩ := (RowI.of_owns HO.out).form
      go_wp2_with fail
      refine (pick_any _ _ _ _ HR.out (by omega)).mono ?_
      rintro e w3 ⟨mn, rfl, _, hR3, hb3⟩
      have hO3 := bk_rowI HO.out hb3 hr
      have hB3 := HB.out.trans hb3
      by_cases h0 : mn = 0
      · subst h0
        go_wp2_with fail
        refine (pick_any _ _ _ _ (hR3.alloc _) (by omega)).mono ?_
        rintro e w4 ⟨k7, rfl, hk7, hR4, hb4⟩
        obtain ⟨ka, kb⟩ := hk7 (by omega)
        obtain ⟨x, hx1, hx2, hx3⟩ := lit3 k7 ka kb
        have hcv := new_cell hb4 (Nat.lt_of_lt_of_le hr hB3.size) _ hx3
        have hO4 := bk_rowI (hO3.alloc _) hb4 hr
        have hB4 := (hB3.alloc _).trans hb4
        have hsz := hB4.size
        clear hx3 hb4 hk7 hb3 hR3 hO3
        go_wp2_with (at_builtin; refine wpList_append_own _ rfl _ _ 36 rfl w.heap.size 3 i0 (.int .i64 0) 1 8 Try.underlying36 hi hz0 hz1 hz2 rfl (by decide) _ _ _ rfl (hO4.alloc _) ⟨w4.heap.size, 0, none⟩ 1 1 [.int .i64 x] rfl rfl ?c1 ?c2 ?c3 ?c4 ?c5 ?_)
        case c1 =>
          intro i u hi
          match i, hi with
          | 0, hi => simp at hi; subst hi; simp [Addr.add]
        case c2 => intro u hu; simp at hu; subst hu; rfl
        case c3 => unfold maxLen; omega
        case c4 => omega
        case c5 => simp; omega
        intro v' w5 hown' hgrow' _
        obtain ⟨hR5, hB5, hO5⟩ := app_left hr hO4 hR4 hB4 hgrow' hown'
        have HR5 : Hid (Rd w5 r (B + 20)) := hR5.mono (by omega)
        have HB5 := Hid.intro hB5
        have HO5 := Hid.intro hO5
        have HS5 : Hid (∀ y ∈ l ++ [x], -1 ≤ y ∧ y ≤ 100001) := fun y hy => by
          rcases List.mem_append.1 hy with hy | hy
          · exact HS.out y hy
          · simp at hy; subst hy; omega
        obtain ⟨g', cap', rfl⟩ := Joins.ownsRow_form hown' (by omega)
        clear hown' hgrow' hO4 hB4 hR4 hR5 hB5 hO5 hB3
        go_wp2
        go_ret
        exact ⟨_, l ++ [x], rfl, by simp; omega, HS5.out, RowI.of_owns HO5.out, HR5.out, HB5.out⟩
      · have h0' : (mn == 0) = false := by simpa using h0
        have HR3 : Hid (Rd w3 r (B + 20)) := hR3.mono (by omega)
        clear hR3
        go_wp2
        go_ret
        exact ⟨_, l, rfl, by omega, HS.out, RowI.of_owns hO3, HR3.out, hB3⟩
set_option maxRecDepth 100000 in
set_option maxHeartbeats 2000000 in
theorem drawShrShare_any (a : Option Addr) (len cap : Nat) (w : World) (h : IsCode w a len cap) :
    Calls Try.prog 21 #[.slice a len cap] w fun e w' => ∃ (t : Int) (aa : Option Addr) (cc : Nat) (l : List Int), e = .returned (.tuple #[.int .i64 t, .slice aa l.length cc]) ∧ -1 ≤ t ∧ t ≤ 100000 ∧ l.length ≤ 8 ∧ (∀ x ∈ l, -1 ≤ x ∧ x ≤ 100001) ∧ RowI w' w.heap.size w'.heap.size (.slice aa l.length cc) l ∧ Below w.heap.size w w' := by
  have HC := Hid.intro h
  clear h
  go_enter Try.func21, Try.ntmps21
  go_wp2_with fail
  refine (open_any _ _ _ _ HC.out).mono ?_
  rintro e w1 ⟨rfl, hR1, hb1⟩
  have hlt1 := hR1.lt
  have hR1' := hR1.drew
  go_wp2_with fail
  go_region_with (first
    | (go_at_call_of 35 (200 : Int); refine (pick_any _ 0 _ _ hR1' (by omega)).mono ?_; rintro e w2 ⟨m, rfl, hm, hR2, hb2⟩; obtain ⟨hm0, hm1⟩ := hm (by omega); have hz2 : w1.heap.size ≤ w2.heap.size := hb2.size; clear hm)
    | (go_at_call_of 35 (8 : Int); refine (pick_any _ 1 _ _ (hR2.alloc _) (by omega)).mono ?_; rintro e w3 ⟨k8, rfl, hk8, hR3, hb3⟩; obtain ⟨hk8a, hk8b⟩ := hk8 (by omega); obtain ⟨v8, hv1, hv2, hv3⟩ := lit8 m k8 hm0 hm1 hk8a hk8b; have hz3 := hb3.size; have hcv := new_cell hb3 (by omega) _ hv3; have K3 := Hid.intro ((((Bk.refl w.heap.size w1).drew.trans hb2).alloc (.cells #[.int .i64 0, .int .i64 1, .int .i64 5, .int .i64 17, .int .i64 100, .int .i64 100000, .int .i64 (-1), .int .i64 m] 3)).trans hb3); have hzz : w2.heap.size < w3.heap.size := Nat.lt_of_lt_of_le (by simp) hz3; clear hk8 hb3 hv3 hz3)
    | (go_at_call_of 35 (8 : Int); refine (pick_any _ 1 _ _ hR2 (by omega)).mono ?_; rintro e w3 ⟨k8, rfl, hk8, hR3, hb3⟩; obtain ⟨hk8a, hk8b⟩ := hk8 (by omega); obtain ⟨v8, hv1, hv2, hv3⟩ := lit8 m k8 hm0 hm1 hk8a hk8b; have hz3 := hb3.size; have hcv : (w3.alloc (.cells #[.int .i64 0, .int .i64 1, .int .i64 5, .int .i64 17, .int .i64 100, .int .i64 100000, .int .i64 (-1), .int .i64 m] 3)).cell? ⟨w3.heap.size, k8.toNat, none⟩ = some (.int .i64 v8) := (cellB (newestB _ _)).trans hv3; have K3 := Hid.intro (((Bk.refl w.heap.size w1).drew.trans hb2).trans hb3); clear hk8 hb3)
    | (go_at_call 37; refine (l20Weights_any _ 2 _ _ hR3 (by omega)).mono ?_; rintro e w4 ⟨v, l, rfl, hl, hS, hr4, hR4, hb4⟩; have hcv4 : w4.cell? ⟨w2.heap.size, k8.toNat, none⟩ = some (.int .i64 v8) := (hb4.cell (p := ⟨w2.heap.size, k8.toNat, none⟩) hzz (by simp; omega)).trans hcv; obtain ⟨aa, cc, rfl⟩ := hr4.form; have HS := Hid.intro hS; have K4 := K3.out.trans hb4; have KF : Hid (RowI w4 w.heap.size w4.heap.size (.slice aa l.length cc) l ∧ Below w.heap.size w w4) := ⟨hr4.base (by have := K3.out.size; omega) (Nat.le_refl _), hb1.trans (K4.below hb1.size (Nat.le_refl _))⟩; clear hr4 hS hb4 K4 hR4)
    | (go_at_call 37; refine (l20Weights_any _ 2 _ _ (hR3.alloc _) (by omega)).mono ?_; rintro e w4 ⟨v, l, rfl, hl, hS, hr4, hR4, hb4⟩; have hcv4 : w4.cell? ⟨w3.heap.size, k8.toNat, none⟩ = some (.int .i64 v8) := (hb4.cell (p := ⟨w3.heap.size, k8.toNat, none⟩) (by simp) (by simp; omega)).trans hcv; obtain ⟨aa, cc, rfl⟩ := hr4.form; have HS := Hid.intro hS; have K4 := (K3.out.alloc (.cells #[.int .i64 0, .int .i64 1, .int .i64 5, .int .i64 17, .int .i64 100, .int .i64 100000, .int .i64 (-1), .int .i64 m] 3)).trans hb4; have KF : Hid (RowI w4 w.heap.size w4.heap.size (.slice aa l.length cc) l ∧ Below w.heap.size w w4) := ⟨hr4.base (by have := K3.out.size; simp; omega) (Nat.le_refl _), hb1.trans (K4.below hb1.size (Nat.le_refl _))⟩; clear hr4 hS hb4 K4 hR4)
    | (go_at_call 37; refine (l20Weights_any _ 2 _ _ hR3 (by omega)).mono ?_; rintro e w4 ⟨v, l, rfl, hl, hS, hr4, hR4, hb4⟩; have hcv4 : (w4.alloc (.cells #[.int .i64 0, .int .i64 1, .int .i64 5, .int .i64 17, .int .i64 100, .int .i64 100000, .int .i64 (-1), .int .i64 m] 3)).cell? ⟨w4.heap.size, k8.toNat, none⟩ = some (.int .i64 v8) := (cellB (newestB _ _)).trans hv3; obtain ⟨aa, cc, rfl⟩ := hr4.form; have HS := Hid.intro hS; have K4 := (K3.out.trans hb4).alloc (.cells #[.int .i64 0, .int .i64 1, .int .i64 5, .int .i64 17, .int .i64 100, .int .i64 100000, .int .i64 (-1), .int .i64 m] 3); have KF : Hid (RowI (w4.alloc (.cells #[.int .i64 0, .int .i64 1, .int .i64 5, .int .i64 17, .int .i64 100, .int .i64 100000, .int .i64 (-1), .int .i64 m] 3)) w.heap.size (w4.alloc (.cells #[.int .i64 0, .int .i64 1, .int .i64 5, .int .i64 17, .int .i64 100, .int .i64 100000, .int .i64 (-1), .int .i64 m] 3)).heap.size (.slice aa l.length cc) l ∧ Below w.heap.size w (w4.alloc (.cells #[.int .i64 0, .int .i64 1, .int .i64 5, .int .i64 17, .int .i64 100, .int .i64 100000, .int .i64 (-1), .int .i64 m] 3))) := ⟨((hr4.base (by have := K3.out.size; omega) (Nat.le_refl _)).below (k_alloc (Below.refl _ _) _) (Nat.le_refl _)).base (Nat.le_refl _) (by simp), hb1.trans (K4.below hb1.size (Nat.le_refl _))⟩; clear hr4 hS hb4 K4 hR4))
  all_goals
    go_wp2
    go_ret2
    exact ⟨v8, _, _, l, rfl, hv1, hv2, hl, HS.out, KF.out.1, KF.out.2⟩
end Go.Proofs.Ytgcobajekffmoac
