/-
  PROVED HERE: what the program's and the model's ShrUpTo answer at every argument, in memory of their own; nothing that was in memory is turned.
-/
import Derived.Test.YtgcobajekffmoadShareI
import Derived.Test.YtgcobajekffmoadShareS2
namespace Go.Proofs.Ytgcobajekffmoad
open Go.RowKit

/-- what each gets, and what is left, if nobody gets more than it wants -/
def upToL (t : Int) (l : List Int) : List Int := if shrOkB t l = true then (if l.sum ≤ t then l else shareL t l) else []
def upToN (t : Int) (l : List Int) : Int := if shrOkB t l = true then (if l.sum ≤ t then t - l.sum else 0) else 0
theorem upTo_bad {t : Int} {l : List Int} (h : shrOkB t l = false) : upToL t l = [] ∧ upToN t l = 0 := by simp [upToL, upToN, h]
theorem upTo_all {t : Int} {l : List Int} (h : shrOkB t l = true) (hs : l.sum ≤ t) : upToL t l = l ∧ upToN t l = t - l.sum := by simp [upToL, upToN, h, hs]
theorem upTo_share {t : Int} {l : List Int} (h : shrOkB t l = true) (hs : ¬ l.sum ≤ t) : upToL t l = shareL t l ∧ upToN t l = 0 := by simp [upToL, upToN, h, hs]
theorem retT {x : Value} {a b : Int} (h : a = b) : Ending.returned (.tuple #[x, .int .i64 a]) = .returned (.tuple #[x, .int .i64 b]) := by rw [h]
theorem map_cells {w : World} {b off n cap : Nat} {l : List Int} (H : IntsAt w (.slice (some ⟨b, off, none⟩) n cap) l) {w' : World} (K : Below w.heap.size w w') : ∀ j x, (l.map (Value.int .i64))[j]? = some x → w'.cell? ((⟨b, off, none⟩ : Addr).add j) = some x := by
  intro j x hx
  rw [List.getElem?_map] at hx
  obtain ⟨y, hy, rfl⟩ := Option.map_eq_some_iff.1 hx
  have hj := (List.getElem?_eq_some_iff.1 hy).1
  rw [Go.WideShapes.add_plain]
  obtain ⟨bq, oq, cq, eq1, _, _, hbw, hcq⟩ := H.get hj
  simp only [Value.slice.injEq, Option.some.injEq, Addr.mk.injEq, and_true] at eq1
  obtain ⟨⟨rfl, rfl⟩, _⟩ := eq1
  rw [K.cell (p := ⟨b, off + j, none⟩) hbw, hcq]
  simp [List.getD, hy]
theorem map_one (l : List Int) : ∀ x ∈ l.map (Value.int .i64), x.oneCell' = true := fun x hx => by obtain ⟨y, _, rfl⟩ := List.mem_map.1 hx; rfl

set_option maxRecDepth 100000 in
set_option maxHeartbeats 4000000 in
theorem shareUpTo_any (t : Int) (v : Value) (l : List Int) (hok : shrOkB t l = true) (w : World) (h : IntsAt w v l) :
    Calls Try.prog 44 #[.int .i64 t, v] w fun e w' => ∃ x, e = .returned (.tuple #[x, .int .i64 (upToN t l)]) ∧ RowI w' w.heap.size w'.heap.size x (upToL t l) ∧ Below w.heap.size w w' := by
  obtain ⟨i0, hi0, hz0, hz1, hz2⟩ := info_parts infoI4
  obtain ⟨a, cap, rfl, _⟩ := h.form
  have H := Hid.intro h
  obtain ⟨ht, hl, hw⟩ := shrOk_parts hok
  have hsb := sum_bound hw
  have HS := Hid.intro (fun W => implsumOf_any (.slice a l.length cap) l (by omega) hw W)
  by_cases hs : l.sum ≤ t
  · obtain ⟨e1, e2⟩ := upTo_all hok hs
    have E1 := Hid.intro e1
    have E2 := Hid.intro e2
    clear e1 e2 hw
    by_cases h0 : 0 < l.length
    · obtain ⟨b, off, cap', e', _, _, hbw, _⟩ := h.get h0
      simp only [Value.slice.injEq, true_and] at e'
      obtain ⟨rfl, rfl⟩ := e'
      clear h
      go_enter Try.func44, Try.ntmps44
      go_wp2_with fail
      refine (HS.out _ H.out).mono ?_
      rintro e w1 ⟨rfl, ex⟩
      cases ex
      generalize l.sum = s at hs E2 hsb
      go_wp2_with (at_builtin; refine wpList_append_own_at _ rfl _ _ 23 rfl w.heap.size 3 i0 (.int .i64 0) 1 8 Try.underlying23 hi0 hz0 hz1 hz2 rfl (by decide) _ 0 [] rfl (World.ownsRow_nil w w.heap.size 3 1) ⟨b, off, none⟩ l.length cap (l.map (Value.int .i64)) rfl ?e1 (map_cells H.out (Below.refl _ _)) (map_one l) ?e4 ?e5 ?e6 ?_)
      case e1 => simp
      case e4 => unfold maxLen; omega
      case e5 => omega
      case e6 => exact Nat.le_refl _
      intro v5 w5 ho5 hg5 _ _
      have R5 := Hid.intro (RowI.of_owns (l := l) (by simpa using ho5))
      have K5 : Hid (Below w.heap.size w w5) := (Below.refl w.heap.size w).grown hg5 (Nat.le_refl _) (fun q hq => by simp [Value.ownBlock] at hq)
      obtain ⟨a5, c5, rfl⟩ := R5.out.form
      clear ho5 hg5
      go_wp2
      go_ret2
      exact ⟨_, retT E2.out.symm, by rw [E1.out]; exact R5.out, K5.out⟩
    · obtain rfl : l = [] := List.eq_nil_of_length_eq_zero (by omega)
      clear h
      cases a with
      | none =>
        go_enter Try.func44, Try.ntmps44
        go_wp2_with fail
        refine (HS.out _ H.out).mono ?_
        rintro e w1 ⟨rfl, ex⟩
        cases ex
        generalize ([] : List Int).sum = s at hs E2 hsb
        go_wp2
        go_ret2
        exact ⟨_, retT E2.out.symm, by rw [E1.out]; exact .inl ⟨rfl, rfl⟩, Below.refl _ _⟩
      | some p =>
        go_enter Try.func44, Try.ntmps44
        go_wp2_with fail
        refine (HS.out _ H.out).mono ?_
        rintro e w1 ⟨rfl, ex⟩
        cases ex
        generalize ([] : List Int).sum = s at hs E2 hsb
        go_wp2
        go_ret2
        exact ⟨_, retT E2.out.symm, by rw [E1.out]; exact .inl ⟨rfl, rfl⟩, Below.refl _ _⟩
  · obtain ⟨e1, e2⟩ := upTo_share hok hs
    have E1 := Hid.intro e1
    have E2 := Hid.intro e2
    have HSh := Hid.intro (fun W => shareOut_any t (.slice a l.length cap) l hok W)
    clear e1 e2 hw h
    go_enter Try.func44, Try.ntmps44
    go_wp2_with fail
    refine (HS.out _ H.out).mono ?_
    rintro e w1 ⟨rfl, ex⟩
    cases ex
    generalize l.sum = s at hs hsb
    go_wp2_with fail
    refine (HSh.out _ H.out).mono ?_
    rintro e w2 ⟨x, rfl, hr, hb⟩
    have R := Hid.intro (And.intro hr hb)
    clear hr hb
    go_wp2
    go_ret2
    exact ⟨x, retT E2.out.symm, by rw [E1.out]; exact R.out.1, R.out.2⟩

set_option maxRecDepth 100000 in
set_option maxHeartbeats 4000000 in
theorem implShrUpTo (t : Int) (v : Value) (l : List Int) (w : World) (h : IntsAt w v l) :
    Calls Try.prog 17 #[.int .i64 t, v] w fun e w' => ∃ x, e = .returned (.tuple #[x, .int .i64 (upToN t l)]) ∧ RowI w' w.heap.size w'.heap.size x (upToL t l) ∧ Below w.heap.size w w' := by
  obtain ⟨a, cap, rfl, _⟩ := h.form
  have H := Hid.intro h
  have HO := Hid.intro (fun W => implShrOk t (.slice a l.length cap) l W)
  by_cases hok : shrOkB t l = true
  · have HS := Hid.intro (fun W => shareUpTo_any t (.slice a l.length cap) l hok W)
    clear h
    go_enter Try.func17, Try.ntmps17
    go_wp2_with fail
    refine (HO.out _ H.out).mono ?_
    rintro e w1 ⟨rfl, ex⟩
    cases ex
    rw [hok]
    go_wp2_with fail
    refine (HS.out _ H.out).mono ?_
    rintro e w2 ⟨x, rfl, hr, hb⟩
    have R := Hid.intro (And.intro hr hb)
    clear hr hb
    go_wp2
    go_ret2
    exact ⟨x, rfl, R.out.1, R.out.2⟩
  · have hok' := eq_false_of_ne_true hok
    obtain ⟨e1, e2⟩ := upTo_bad hok'
    have E1 := Hid.intro e1
    have E2 := Hid.intro e2
    clear e1 e2 h
    go_enter Try.func17, Try.ntmps17
    go_wp2_with fail
    refine (HO.out _ H.out).mono ?_
    rintro e w1 ⟨rfl, ex⟩
    cases ex
    rw [hok']
    go_wp2
    go_ret2
    exact ⟨_, retT E2.out.symm, by rw [E1.out]; exact .inl ⟨rfl, rfl⟩, Below.refl _ _⟩

set_option maxRecDepth 100000 in
set_option maxHeartbeats 4000000 in
theorem specl4UpTo (t : Int) (v : Value) (l : List Int) (hok : shrOkB t l = true) (w : World) (h : IntsAt w v l) :
    Calls Try.prog 45 #[.int .i64 t, v] w fun e w' => ∃ x, e = .returned (.tuple #[x, .int .i64 (upToN t l)]) ∧ RowI w' w.heap.size w'.heap.size x (upToL t l) ∧ Below w.heap.size w w' := by
  obtain ⟨i0, hi0, hz0, hz1, hz2⟩ := info_parts infoI4
  obtain ⟨a, cap, rfl, _⟩ := h.form
  have H := Hid.intro h
  obtain ⟨ht, hl, hw⟩ := shrOk_parts hok
  have hsb := sum_bound hw
  have HS := Hid.intro (fun W => specl1Sum_any (.slice a l.length cap) l (by omega) hw W)
  by_cases hs : l.sum ≤ t
  · obtain ⟨e1, e2⟩ := upTo_all hok hs
    have E1 := Hid.intro e1
    have E2 := Hid.intro e2
    clear e1 e2 hw
    by_cases h0 : 0 < l.length
    · obtain ⟨b, off, cap', e', _, _, hbw, _⟩ := h.get h0
      simp only [Value.slice.injEq, true_and] at e'
      obtain ⟨rfl, rfl⟩ := e'
      clear h
      go_enter Try.func45, Try.ntmps45
      go_wp2_with fail
      refine (HS.out _ H.out).mono ?_
      rintro e w1 ⟨rfl, ex⟩
      cases ex
      generalize l.sum = s at hs E2 hsb
      go_wp2_with (at_builtin; refine wpList_append_own_at _ rfl _ _ 23 rfl w.heap.size 3 i0 (.int .i64 0) 1 8 Try.underlying23 hi0 hz0 hz1 hz2 rfl (by decide) _ 0 [] rfl (World.ownsRow_made (base := w.heap.size) (e := 3) (size := 1) w #[] 0 (Nat.le_refl _) (Nat.zero_le _) rfl) ⟨b, off, none⟩ l.length cap (l.map (Value.int .i64)) rfl ?e1 (map_cells H.out (k_alloc (Below.refl _ _) _)) (map_one l) ?e4 ?e5 ?e6 ?_)
      case e1 => simp
      case e4 => unfold maxLen; omega
      case e5 => omega
      case e6 => simp
      intro v5 w5 ho5 hg5 _ _
      have R5 := Hid.intro (RowI.of_owns (l := l) (by simpa using ho5))
      have K5 : Hid (Below w.heap.size w w5) := (k_alloc (Below.refl w.heap.size w) (.cells #[] 3)).grown hg5 (by simp) (fun q hq => by
        have : q = w.heap.size := by simpa [Value.ownBlock] using hq.symm
        omega)
      obtain ⟨a5, c5, rfl⟩ := R5.out.form
      clear ho5 hg5
      go_wp2
      go_ret2
      exact ⟨_, retT E2.out.symm, by rw [E1.out]; exact R5.out, K5.out⟩
    · obtain rfl : l = [] := List.eq_nil_of_length_eq_zero (by omega)
      clear h
      cases a with
      | none =>
        go_enter Try.func45, Try.ntmps45
        go_wp2_with fail
        refine (HS.out _ H.out).mono ?_
        rintro e w1 ⟨rfl, ex⟩
        cases ex
        generalize ([] : List Int).sum = s at hs E2 hsb
        go_wp2
        go_ret2
        exact ⟨_, retT E2.out.symm, by rw [E1.out]; exact row_lit w _ (Nat.le_refl _), k_alloc (Below.refl _ _) _⟩
      | some p =>
        go_enter Try.func45, Try.ntmps45
        go_wp2_with fail
        refine (HS.out _ H.out).mono ?_
        rintro e w1 ⟨rfl, ex⟩
        cases ex
        generalize ([] : List Int).sum = s at hs E2 hsb
        go_wp2
        go_ret2
        exact ⟨_, retT E2.out.symm, by rw [E1.out]; exact row_lit w _ (Nat.le_refl _), k_alloc (Below.refl _ _) _⟩
  · obtain ⟨e1, e2⟩ := upTo_share hok hs
    have E1 := Hid.intro e1
    have E2 := Hid.intro e2
    have HSh := Hid.intro (fun W => specl4Share t (.slice a l.length cap) l hok W)
    clear e1 e2 hw h
    go_enter Try.func45, Try.ntmps45
    go_wp2_with fail
    refine (HS.out _ H.out).mono ?_
    rintro e w1 ⟨rfl, ex⟩
    cases ex
    generalize l.sum = s at hs hsb
    go_wp2_with fail
    refine (HSh.out _ H.out).mono ?_
    rintro e w2 ⟨x, rfl, hr, hb⟩
    have R := Hid.intro (And.intro hr hb)
    clear hr hb
    go_wp2
    go_ret2
    exact ⟨x, retT E2.out.symm, by rw [E1.out]; exact R.out.1, R.out.2⟩

set_option maxRecDepth 100000 in
set_option maxHeartbeats 2000000 in
theorem specShrUpTo (t : Int) (v : Value) (l : List Int) (w : World) (h : IntsAt w v l) :
    Calls Try.prog 18 #[.int .i64 t, v] w fun e w' => ∃ x, e = .returned (.tuple #[x, .int .i64 (upToN t l)]) ∧ RowI w' w.heap.size w'.heap.size x (upToL t l) ∧ Below w.heap.size w w' := by
  obtain ⟨a, cap, rfl, _⟩ := h.form
  have H := Hid.intro h
  clear h
  have HO := Hid.intro (fun W => specShrOk t (.slice a l.length cap) l W)
  by_cases hok : shrOkB t l = true
  · have HS := Hid.intro (fun W => specl4UpTo t (.slice a l.length cap) l hok W)
    go_enter Try.func18, Try.ntmps18
    go_wp2_with fail
    refine (HO.out _ H.out).mono ?_
    rintro e w1 ⟨rfl, e1⟩
    cases e1
    rw [hok]
    go_wp2_with fail
    refine (HS.out _ H.out).mono ?_
    rintro e w2 ⟨x, rfl, hr, hb⟩
    have R := Hid.intro (And.intro hr hb)
    clear hr hb
    go_wp2
    go_ret2
    exact ⟨x, rfl, R.out.1, R.out.2⟩
  · have hok' := eq_false_of_ne_true hok
    obtain ⟨e1, e2⟩ := upTo_bad hok'
    have E1 := Hid.intro e1
    have E2 := Hid.intro e2
    clear e1 e2
    go_enter Try.func18, Try.ntmps18
    go_wp2_with fail
    refine (HO.out _ H.out).mono ?_
    rintro e w1 ⟨rfl, e1⟩
    cases e1
    rw [hok']
    go_wp2
    go_ret2
    exact ⟨_, retT E2.out.symm, by rw [E1.out]; exact row_lit w _ (Nat.le_refl _), k_alloc (Below.refl _ _) _⟩
end Go.Proofs.Ytgcobajekffmoad
