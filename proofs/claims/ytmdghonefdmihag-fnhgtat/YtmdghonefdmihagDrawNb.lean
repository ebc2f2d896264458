/-
  PROVED HERE: l20Numbers and DrawWidAt draw small numbers; nothing that was in memory is turned but the reader's own place.
-/
import Derived.Test.YtmdghonefdmihagRd
import Derived.Test.YtmdghonefdmihagInts
import Derived.Deep.RegionWith
namespace Go.Proofs.Ytmdghonefdmihag
open Go.RowKit

theorem bk_rowI {r : Nat} {w w' : World} {base n : Nat} {e : TypeId} {v : Value} {xs : List Value} (h : w.ownsRow base e 1 v n xs) (k : Bk r w w') (hr : r < base) : w'.ownsRow base e 1 v n xs :=
  ⟨h.1, h.2.elim Or.inl (fun ⟨g, cap, cur, hv, hg, hc, q⟩ => Or.inr ⟨g, cap, cur, hv, hg, (k.block g (Array.getElem?_eq_some_iff.1 hc).1 (by omega)).trans hc, q⟩)⟩
theorem infoIj : (Try.prog.info? 3).map (fun i => (i.zero, i.size, i.bytes)) = some (some (Value.int .i64 0), 1, 8) := by kernel_rfl
theorem new_cell {r : Nat} {w w' : World} {cs : Array Value} {t : TypeId} (k : Bk r (w.alloc (.cells cs t)) w') (hr : r < w.heap.size) (i : Nat) {v : Value} (hv : cs[i]? = some v) : w'.cell? ⟨w.heap.size, i, none⟩ = some v :=
  (cellB ((k.block w.heap.size (by simp) (by omega)).trans (newestB _ _))).trans hv
/-- what an append of one number leaves -/
theorem app_left {w w3 w4 : World} {r B : Nat} {l : List Int} {x : Int} {o v' : Value} (hr : r < w.heap.size) (hO : w3.ownsRow w.heap.size 3 1 o l.length (l.map (Value.int .i64))) (hR : Rd w3 r B) (hB : Bk r w w3)
    (hg : (w3.alloc (.cells #[.int .i64 x] 3)).grownBy w4 o.ownBlock) (hown : w4.ownsRow w.heap.size 3 1 v' (l.length + 1) (l.map (Value.int .i64) ++ [.int .i64 x])) :
    Rd w4 r B ∧ Bk r w w4 ∧ w4.ownsRow w.heap.size 3 1 v' (l ++ [x]).length ((l ++ [x]).map (Value.int .i64)) := by
  have hlt := hR.lt
  have hA := hB.alloc (.cells #[.int .i64 x] 3)
  refine ⟨?_, ?_, by rw [List.length_append, List.map_append]; exact hown⟩
  · refine (hR.alloc (.cells #[.int .i64 x] 3)).keep (fun k hk => hg.block k (by simp; omega) (fun hb => ?_))
    have := (hO.lt k hb.symm).1
    omega
  · refine ⟨hg.os.trans hA.os, hg.tape.trans hA.tape, hg.output.trans hA.output, Nat.le_trans hA.size hg.size, fun k hk hkr => (hg.block k (Nat.lt_of_lt_of_le hk hA.size) (fun hb => ?_)).trans (hA.block k hk hkr)⟩
    have := (hO.lt k hb.symm).1
    omega

set_option maxRecDepth 100000 in
set_option maxHeartbeats 1000000 in
theorem l20Numbers_any (r B : Nat) (w : World) (h : Rd w r B) (hB : B ≤ 1000) :
    Calls Try.prog 11 #[.pointer (some ⟨r, 0, none⟩)] w fun e w' => ∃ (v : Value) (l : List Int), e = .returned v ∧ l.length ≤ 6 ∧ (∀ x ∈ l, 0 ≤ x ∧ x ≤ 20) ∧ RowI w' w.heap.size w'.heap.size v l ∧ Rd w' r (B + 20) ∧ Bk r w w' := by
  obtain ⟨i0, hi, hz0, hz1, hz2⟩ := info_parts infoIj
  have hr := h.lt
  have H := Hid.intro h
  clear h
  go_enter Try.func11, Try.ntmps11
  go_wp2_with fail
  refine (pick_any _ B _ _ (H.out.alloc _) (by omega)).mono ?_
  rintro e w2 ⟨m0, rfl, hm0, hR2, hb2⟩
  obtain ⟨m1, m2⟩ := hm0 (by omega)
  obtain ⟨M, rfl⟩ := Int.eq_ofNat_of_zero_le m1
  have O2 := Hid.intro (bk_rowI (World.ownsRow_made (base := w.heap.size) (e := 3) (size := 1) w #[] 0 (Nat.le_refl _) (Nat.zero_le _) rfl) hb2 hr)
  have R2 := Hid.intro hR2
  have K2 := Hid.intro (((Bk.refl r w).alloc (.cells #[] 3)).trans hb2)
  clear hR2 hb2 hm0 m1
  go_wp2_with fail
  go_loopw [3, 4] (fun o q W => ∃ (m : Nat) (l : List Int), q = .int .i64 m ∧ m + l.length ≤ 6 ∧ Hid (∀ x ∈ l, 0 ≤ x ∧ x ≤ 20) ∧ Hid (W.ownsRow w.heap.size 3 1 o l.length (l.map (Value.int .i64))) ∧ Hid (Rd W r (B + 1 + 2 * l.length)) ∧ Hid (Bk r w W)) (fun _ q _ => (intOf q).toNat)
  case atStart => exact ⟨M, [], rfl, by simp; omega, fun x hx => (by cases hx), O2.out, R2.out, K2.out⟩
  case round =>
    obtain ⟨m, l, rfl, hms, HS, HO, HR, HB⟩ := hrel
    by_cases hm : 0 < m
    · have hm' : (0 : Int) < (m : Int) := by omega
      go_wp2_with fail
      refine (pick_any _ _ _ _ HR.out (by omega)).mono ?_
      rintro e w4 ⟨x, rfl, hk7, hR4, hb4⟩
      obtain ⟨ka, kb⟩ := hk7 (by omega)
      have hO4 := bk_rowI HO.out hb4 hr
      have hB4 := HB.out.trans hb4
      have hsz := hB4.size
      clear hb4 hk7
      go_wp2_with (at_builtin; refine wpList_append_own _ rfl _ _ 23 rfl w.heap.size 3 i0 (.int .i64 0) 1 8 Try.underlying23 hi hz0 hz1 hz2 rfl (by decide) _ _ _ rfl (hO4.alloc _) ⟨w4.heap.size, 0, none⟩ 1 1 [.int .i64 x] rfl rfl ?c1 ?c2 ?c3 ?c4 ?c5 ?_)
      case c1 =>
        intro i u hi
        match i, hi with
        | 0, hi => simp at hi; subst hi; simp [Addr.add]
      case c2 => intro u hu; simp at hu; subst hu; rfl
      case c3 => unfold maxLen; omega
      case c4 => omega
      case c5 => simp; omega
      intro v' w5 hown' hgrow' _
      obtain ⟨hR5, hB5, hO5⟩ := app_left hr hO4 hR4 hB4 hgrow' hown'
      have HR5 : Hid (Rd w5 r (B + 1 + 2 * (l ++ [x]).length)) := hR5.mono (by simp; omega)
      have HB5 := Hid.intro hB5
      have HO5 := Hid.intro hO5
      have HS5 : Hid (∀ y ∈ l ++ [x], 0 ≤ y ∧ y ≤ 20) := fun y hy => by
        rcases List.mem_append.1 hy with hy | hy
        · exact HS.out y hy
        · simp at hy; subst hy; omega
      obtain ⟨g', cap', rfl⟩ := Joins.ownsRow_form hown' (by omega)
      clear hown' hgrow' hO4 hB4 hR4 hR5 hB5 hO5
      have hms4 : (m - 1) + (l ++ [x]).length ≤ 6 := by simp; omega
      go_wp2
      go_roundw
      case rel => exact ⟨m - 1, l ++ [x], by go_num, hms4, HS5, HO5, HR5, HB5⟩
      case measure => simp [intOf]; omega
    · obtain rfl : m = 0 := by omega
      obtain ⟨aa, cc, rfl⟩ := (RowI.of_owns HO.out).form
      have HR3 : Hid (Rd wr r (B + 20)) := HR.out.mono (by omega)
      go_wp2
      go_ret
      exact ⟨_, l, rfl, by omega, HS.out, RowI.of_owns HO.out, HR3.out, HB.out⟩
end Go.Proofs.Ytmdghonefdmihag
