/-
  PROVED HERE: l20Slices and DrawPagHigh draw slices of rows, small numbers; nothing that was in memory is turned but the reader's own place.
-/
import Derived.Test.YtfkkhfiiokhnaaiRd
import Derived.Test.YtfkkhfiiokhnaaiPagD
import Derived.Test.YtfkkhfiiokhnaaiOwnK
import Derived.Deep.RegionWith
namespace Go.Proofs.Ytfkkhfiiokhnaai
open Go.RowKit

def psVs (x : PgS) : List Value := [.int .i64 x.r, .int .i64 x.f, .int .i64 x.t]
theorem infoSl : (Try.prog.info? 27).map (fun i => (i.zero, i.size, i.bytes)) = some (some (Value.agg #[.int .i64 0, .int .i64 0, .int .i64 0]), 3, 24) := by kernel_rfl
def OwnP (w : World) (base : Nat) (v : Value) (l : List PgS) : Prop := w.ownsRow base 27 3 v l.length (l.flatMap psVs)
theorem OwnP.bk {r : Nat} {w w' : World} {base : Nat} {v : Value} {l : List PgS} (h : OwnP w base v l) (k : Bk r w w') (hr : r < base) : OwnP w' base v l :=
  ⟨h.1, h.2.elim Or.inl (fun ⟨g, cap, cur, hv, hg, hc, q⟩ => Or.inr ⟨g, cap, cur, hv, hg, (k.block g (Array.getElem?_eq_some_iff.1 hc).1 (by omega)).trans hc, q⟩)⟩
theorem OwnP.at {w : World} {base : Nat} {v : Value} {l : List PgS} (h : OwnP w base v l) : PsAt w base v l := by
  rcases h.2 with ⟨rfl, hn⟩ | ⟨g, cap, cur, rfl, hg, hc, h3, h4, _⟩
  · exact ⟨none, 0, by rw [hn], by omega, by unfold maxLen; omega, fun i hi => by omega⟩
  · refine ⟨_, cap, rfl, h3, h4, fun i hi => ⟨g, 0, rfl, (Array.getElem?_eq_some_iff.1 hc).1, hg, ?_⟩⟩
    have hx : ∀ j, j < 3 → w.cell? ⟨g, i * 3 + j, none⟩ = (psVs l[i])[j]? := fun j hj => by
      have e := flat_get psVs 3 (fun _ => rfl) l i hi j hj
      rw [row_cell h (u := (psVs l[i])[j]'(by show j < 3; exact hj)) (by rw [e]; simp)]
      simp
    have e : l.getD i dP = l[i] := by simp [List.getD, hi]
    dsimp only
    rw [e, Nat.zero_add]
    exact ⟨hx 0 (by omega), hx 1 (by omega), hx 2 (by omega)⟩
/-- what an append of one slice leaves -/
theorem app_slice {w w3 w4 : World} {r B : Nat} {l : List PgS} {x : PgS} {o v' : Value} {T : TypeId} {arr : Array Value} (hr : r < w.heap.size) (hO : OwnP w3 w.heap.size o l) (hR : Rd w3 r B) (hB : Bk r w w3)
    (hg : (w3.alloc (.cells arr T)).grownBy w4 o.ownBlock) (hown : w4.ownsRow w.heap.size 27 3 v' (l.length + 1) (l.flatMap psVs ++ psVs x)) :
    Rd w4 r B ∧ Bk r w w4 ∧ OwnP w4 w.heap.size v' (l ++ [x]) := by
  have hlt := hR.lt
  have hA := hB.alloc (.cells arr T)
  refine ⟨?_, ?_, by unfold OwnP; rw [List.length_append, List.flatMap_append]; simpa using hown⟩
  · refine (hR.alloc (.cells arr T)).keep (fun k hk => hg.block k (by simp; omega) (fun hb => ?_))
    have := (hO.lt k hb.symm).1
    omega
  · refine ⟨hg.os.trans hA.os, hg.tape.trans hA.tape, hg.output.trans hA.output, Nat.le_trans hA.size hg.size, fun k hk hkr => (hg.block k (Nat.lt_of_lt_of_le hk hA.size) (fun hb => ?_)).trans (hA.block k hk hkr)⟩
    have := (hO.lt k hb.symm).1
    omega
def SmallP (x : PgS) : Prop := (0 ≤ x.r ∧ x.r ≤ 4) ∧ 0 ≤ x.f ∧ x.f ≤ x.t ∧ x.t ≤ 7

set_option maxRecDepth 100000 in
set_option maxHeartbeats 1000000 in
theorem l20Slices_any (r B : Nat) (w : World) (h : Rd w r B) (hB : B ≤ 1000) :
    Calls Try.prog 7 #[.pointer (some ⟨r, 0, none⟩)] w fun e w' => ∃ (v : Value) (l : List PgS), e = .returned v ∧ l.length ≤ 4 ∧ (∀ x ∈ l, SmallP x) ∧ OwnP w' w.heap.size v l ∧ Rd w' r (B + 20) ∧ Bk r w w' := by
  obtain ⟨i0, hi, hz0, hz1, hz2⟩ := info_parts infoSl
  have hr := h.lt
  have H := Hid.intro h
  clear h
  go_enter Try.func7, Try.ntmps7
  go_wp2_with fail
  refine (pick_any _ B _ _ (H.out.alloc _) (by omega)).mono ?_
  rintro e w2 ⟨m0, rfl, hm0, hR2, hb2⟩
  obtain ⟨m1, m2⟩ := hm0 (by omega)
  obtain ⟨M, rfl⟩ := Int.eq_ofNat_of_zero_le m1
  have O2 : Hid (OwnP w2 w.heap.size (.slice (some ⟨w.heap.size, 0, none⟩) 0 0) []) := OwnP.bk (l := []) (World.ownsRow_made (base := w.heap.size) (e := 27) (size := 3) w #[] 0 (Nat.le_refl _) (Nat.zero_le _) rfl) hb2 hr
  have R2 := Hid.intro hR2
  have K2 := Hid.intro (((Bk.refl r w).alloc (.cells #[] 27)).trans hb2)
  clear hR2 hb2 hm0 m1
  go_wp2_with fail
  go_loopw [3, 4] (fun o q W => ∃ (m : Nat) (l : List PgS), q = .int .i64 m ∧ m + l.length ≤ 4 ∧ Hid (∀ x ∈ l, SmallP x) ∧ Hid (OwnP W w.heap.size o l) ∧ Hid (Rd W r (B + 1 + 4 * l.length)) ∧ Hid (Bk r w W)) (fun _ q _ => (intOf q).toNat)
  case atStart => exact ⟨M, [], rfl, by simp; omega, fun x hx => (by cases hx), O2.out, R2.out, K2.out⟩
  case round =>
    obtain ⟨m, l, rfl, hms, HS, HO, HR, HB⟩ := hrel
    by_cases hm : 0 < m
    · have hm' : (0 : Int) < (m : Int) := by omega
      obtain ⟨oa, oc, rfl, _⟩ := row_form HO.out
      go_wp2_with fail
      refine (pick_any _ _ _ _ HR.out (by omega)).mono ?_
      rintro e w4 ⟨x, rfl, hk7, hR4, hb4⟩
      obtain ⟨xa, xb⟩ := hk7 (by omega)
      have HR4 := Hid.intro hR4
      have HK4 := Hid.intro hb4
      clear hb4 hk7 hR4
      go_wp2_with fail
      refine (pick_any _ _ _ _ HR4.out (by omega)).mono ?_
      rintro e w5 ⟨y, rfl, hk7, hR5, hb5⟩
      obtain ⟨ya, yb⟩ := hk7 (by omega)
      have HR5 := Hid.intro hR5
      have HK5 := Hid.intro (HK4.out.trans hb5)
      clear hb5 hk7 hR5 HR4 HK4
      go_wp2_with fail
      refine (pick_any _ _ _ _ HR5.out (by omega)).mono ?_
      rintro e w6 ⟨u, rfl, hk7, hR6, hb6⟩
      obtain ⟨ua, ub⟩ := hk7 (by omega)
      have hK6 := HK5.out.trans hb6
      have hO6 := HO.out.bk hK6 hr
      have hB6 := HB.out.trans hK6
      have hsz := hB6.size
      clear hb6 hk7 HR5 HK5 hK6
      have hO6' : w6.ownsRow w.heap.size 27 3 (.slice oa l.length oc) l.length (l.flatMap psVs) := hO6
      go_wp2_with (at_builtin; refine wpList_append_own _ rfl _ _ 23 rfl w.heap.size 27 i0 _ 3 24 Try.underlying23 hi hz0 hz1 hz2 rfl (by decide) _ _ _ rfl (hO6'.alloc _) ⟨w6.heap.size, 0, none⟩ 1 1 (psVs ⟨y, x, x + u⟩) rfl rfl (news_at (newestB _ _)) (by simp [psVs, Value.oneCell']) (by unfold maxLen; omega) (by omega) (by simp; omega) ?_)
      intro v' w7 hown' hgrow' _
      obtain ⟨hR7, hB7, hO7⟩ := app_slice (x := ⟨y, x, x + u⟩) hr hO6 hR6 hB6 hgrow' hown'
      have HR7 : Hid (Rd w7 r (B + 1 + 4 * (l ++ [(⟨y, x, x + u⟩ : PgS)]).length)) := hR7.mono (by simp; omega)
      have HB7 := Hid.intro hB7
      have HO7 := Hid.intro hO7
      have HS7 : Hid (∀ p ∈ l ++ [(⟨y, x, x + u⟩ : PgS)], SmallP p) := fun p hp => by
        rcases List.mem_append.1 hp with hp | hp
        · exact HS.out p hp
        · simp at hp; subst hp; exact ⟨⟨ya, by simp; omega⟩, xa, by simp; omega, by simp; omega⟩
      obtain ⟨g', cap', rfl⟩ := Joins.ownsRow_form hown' (by omega)
      clear hown' hgrow' hO6 hO6' hB6 hR6 hR7 hB7 hO7
      have hms4 : (m - 1) + (l ++ [(⟨y, x, x + u⟩ : PgS)]).length ≤ 4 := by simp; omega
      have hle : (l ++ [(⟨y, x, x + u⟩ : PgS)]).length = l.length + 1 := by simp
      have HL := Hid.intro hle
      clear hle
      generalize l ++ [(⟨y, x, x + u⟩ : PgS)] = l2 at *
      go_wp2
      go_roundw
      case rel => exact ⟨m - 1, l2, by go_num, hms4, HS7, by first | exact HO7 | (rw [← HL.out]; exact HO7), HR7, HB7⟩
      case measure => simp [intOf]; omega
    · obtain rfl : m = 0 := by omega
      obtain ⟨aa, cc, rfl, _⟩ := row_form HO.out
      have HR3 : Hid (Rd wr r (B + 20)) := HR.out.mono (by omega)
      go_wp2
      go_ret
      exact ⟨_, l, rfl, by omega, HS.out, HO.out, HR3.out, HB.out⟩
end Go.Proofs.Ytfkkhfiiokhnaai
