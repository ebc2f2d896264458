/-
  PROVED HERE: the program's toTheRest: what is still left goes to others, or to parts, alike; nothing else that was in memory is turned. Also: how wide columns are is what the three steps leave, each taken only while something is left. Also: the program's cellOf is a cell at its place in a drawn table; nothing that was in memory is turned. Also: the program's textOf is the text of a cell at its place in a drawn table; nothing that was in memory is turned.
-/
import Derived.Test.YtfkkhfiiokhnaaeGreatB41
import Derived.Test.YtfkkhfiiokhnaaeGreatB39
import Derived.Test.YtfkkhfiiokhnaaeGreatB40
import Derived.Test.YtfkkhfiiokhnaaeGreatB35
import Derived.Test.YtfkkhfiiokhnaaeGreatB37
import Derived.Test.YtfkkhfiiokhnaaeGreatB29
import Derived.Deep.DeepCutAuto
import Derived.Deep.RegionWith
import Derived.Deep.QuietTactic
import Derived.BigQuiet
namespace Go.Proofs.YtfkkhfiiokhnaaeGreat
open Go.RowKit Go.BigFrame

/-- what columns are behind the last share -/
def restL (t : T) (C : Nat) (left : Int) (L : List Int) : List Int :=
  if 0 < (selN (kindP t 0) C).length then addL L (shareL left (oneL (kindP t 0) C)) else if 0 < (selN (kindP t 2) C).length then addL L (shareL left (oneL (kindP t 2) C)) else L
theorem sum_pos : ∀ {l : List Int}, (∀ x ∈ l, 0 ≤ x) → 0 ≤ l.sum
  | [], _ => by simp
  | a :: r, h => by
    have h1 := h a (by simp)
    have h2 := sum_pos (l := r) (fun x hx => h x (by simp [hx]))
    simp only [List.sum_cons]; omega
theorem le_sum : ∀ {l : List Int}, (∀ x ∈ l, 0 ≤ x) → ∀ x ∈ l, x ≤ l.sum
  | [], _, x, hx => by cases hx
  | a :: r, h, x, hx => by
    have h1 := h a (by simp)
    have h2 := sum_pos (l := r) (fun x hx => h x (by simp [hx]))
    simp only [List.sum_cons]
    rcases List.mem_cons.1 hx with rfl | hx
    · omega
    · have := le_sum (l := r) (fun x hx => h x (by simp [hx])) x hx
      omega
theorem sum_ge {l : List Int} (h : ∀ i, i < l.length → 0 ≤ l.getD i 0) {i : Nat} (hi : i < l.length) : l.getD i 0 ≤ l.sum := by
  rw [show l.getD i 0 = l[i] by simp [List.getD, hi]]
  refine le_sum (fun x hx => ?_) _ (List.getElem_mem hi)
  obtain ⟨j, hj, rfl⟩ := List.mem_iff_getElem.1 hx
  have := h j hj
  rwa [show l.getD j 0 = l[j] by simp [List.getD, hj]] at this
theorem rest_lists {L : List Int} {P : Nat → Bool} {left : Int} {C : Nat} (hLC : L.length = C) (hC : C ≤ 88) (ht : 0 ≤ left ∧ left ≤ 100000) :
    shrOkB left (List.replicate (selN P C).length 0) = true ∧ (shareL left (List.replicate (selN P C).length 0)).length = (selN P C).length ∧ (shareL left (List.replicate (selN P C).length 0)).all wtB = true ∧
    (0 < (selN P C).length → giveTo L (selN P C) (shareL left (List.replicate (selN P C).length 0)) (selN P C).length = addL L (shareL left (oneL P C))) ∧ ((selN P C).length = 0 → giveTo L (selN P C) (shareL left (List.replicate (selN P C).length 0)) (selN P C).length = L) := by
  have hnl := selN_le P C
  have hok : shrOkB left (List.replicate (selN P C).length 0) = true := ok_of ht (by simp; omega) (fun i hi => by rw [List.length_replicate] at hi; simp [List.getD, hi])
  have hl := shareL_len hok
  rw [List.length_replicate] at hl
  refine ⟨hok, hl, ?_, fun h0 => ?_, fun h0 => by rw [h0]; rfl⟩
  · by_cases h0 : 0 < (selN P C).length
    · refine all_wt (fun i hi => ?_)
      have h1 := shareL_small (t := left) (l := List.replicate (selN P C).length 0) i hi
      have h2 := share_sum hok (by simpa using h0)
      have h3 := sum_ge (l := shareL left (List.replicate (selN P C).length 0)) (fun j hj => (shareL_small (t := left) (l := List.replicate (selN P C).length 0) j hj).1) hi
      omega
    · have : shareL left (List.replicate (selN P C).length 0) = [] := List.eq_nil_of_length_eq_zero (by omega)
      rw [this]
      rfl
  · rw [share_alike_sel P ht (by omega) h0]
    have hok1 := oneL_ok P (n := C) ht (by omega)
    have h1 := shareL_len hok1
    rw [oneL_len] at h1
    have := give_all (l := L) (more := shareL left (oneL P C)) (P := P) (by omega) (fun i hi hP => share_zero hok1 (by rw [oneL_sum]; omega) (by rw [oneL_len]; omega) (by rw [oneL_get (by omega), if_neg (by rw [hP]; simp)]))
    rw [hLC] at this
    exact this
set_option maxRecDepth 100000 in
set_option maxHeartbeats 1000000 in
theorem impltoTheRest (w0 : World) (sb : Nat) (ac ar : Option Addr) (cc cr : Nat) (t : T) (width : Int) (g cap C D : Nat) (left : Int) (L : List Int) {z : Nat} (hc : ColsAt w0 z (.slice ac t.cols.length cc) t.cols) (hC : C ≤ 88) (hLC : L.length = C) (hLs : L.all wtB = true) (hg0 : w0.heap.size ≤ g) (hgD : g < D) (hDs : D ≤ sb) (hleft : 0 ≤ left ∧ left ≤ 100000) (w : World) (h : SpS w0 sb ac ar cc cr t width g cap C D left L w) :
    Calls Tryz.prog 48 #[.pointer (some ⟨sb, 0, none⟩)] w fun e w' => e = .returned (.tuple #[]) ∧ (∃ left', SpS w0 sb ac ar cc cr t width g cap C D left' (restL t C left L) w') ∧ Bk2 g sb w w' := by
  have H := Hid.intro h
  have hsbw : sb < w.heap.size := h.sp.lt
  have HB0 := Hid.intro (Below.refl w.heap.size w)
  have KO := Hid.intro (fun q W (h : SpS w0 sb ac ar cc cr t width g cap C D left L W) => implofKind sb ac ar cc cr t width g cap C left q hC W h.sp (hc.kept h.bel))
  clear h hc
  by_cases hn0 : 0 < (selN (kindP t 0) C).length
  · have hne : (((selN (kindP t 0) C).length : Int) == 0) = false := beq_eq_false_iff_ne.2 (by omega)
    go_enter Tryz.func48, Tryz.ntmps48
    go_wp2_with fail
    refine (KO.out 0 _ H.out).mono ?_
    rintro e w1 ⟨v1, rfl, hr1, hb1⟩
    obtain ⟨a1, c1, rfl⟩ := hr1.form
    rw [natL_len] at hr1 ⊢
    have HS1 := Hid.intro (H.out.kept hb1)
    have HB1 := Hid.intro (k_trans HB0.out hb1)
    have HR1 := Hid.intro hr1
    have hz1 := hb1.size
    have hmk := makeI (selN (kindP t 0) C).length (by have := selN_le (kindP t 0) C; omega)
    have hnl := selN_le (kindP t 0) C
    obtain ⟨ok1, len1, all1, give1, give0⟩ := rest_lists (P := kindP t 0) (L := L) (left := left) hLC hC hleft
    have HLt := Hid.intro (fun k (hk : k < (selN (kindP t 0) C).length) => (selN_lt hk).1)
    have HFin : Hid (giveTo L (selN (kindP t 0) C) (shareL left (List.replicate (selN (kindP t 0) C).length 0)) (selN (kindP t 0) C).length = restL t C left L) := by
      rw [Hid, restL]
      rw [if_pos hn0]
      exact give1 hn0
    have HA1 := Hid.intro all1
    have HLn := Hid.intro len1
    have HOk := Hid.intro ok1
    generalize selN (kindP t 0) C = js at hr1 HR1 hmk hnl HLt HFin HA1 HLn HOk hne hn0 ⊢
    clear hr1 hb1 ok1 len1 all1 give1 give0
    have hA2 := k_alloc (Below.refl w1.heap.size w1) (.cells (newI js.length) 3)
    have HN := Hid.intro (row_new w1 js.length (by omega))
    have hn2 : (w1.alloc (.cells (newI js.length) 3)).heap.size = w1.heap.size + 1 := by simp
    have HS2 := Hid.intro (HS1.out.kept hA2)
    have HR2 := Hid.intro (HR1.out.kept (w' := w1.alloc (.cells (newI js.length) 3)) (fun j h0 _ _ => hA2.block j h0))
    have HB2 := Hid.intro (k_trans HB1.out hA2)
    clear HS1 HR1 HB1 hA2
    go_upto_region 4 with fail
    generalize w1.alloc (.cells (newI js.length) 3) = W2 at HN HS2 HR2 HB2 hn2 ⊢
    generalize w1.heap.size = gb at HN HR2 hn2 hz1 ⊢
    have s7 : W2.cell? ⟨sb, 7, none⟩ = some (.int .i64 left) := cellB (p := 7) HS2.out.sp
    have KU := Hid.intro (shareOut_any left _ _ HOk.out W2 HN.out.at)
    go_wp2_with fail
    refine KU.out.mono ?_
    rintro e w5 ⟨v5, rfl, hr5, hb5⟩
    obtain ⟨a5, c5, rfl⟩ := hr5.form
    have hz5 := hb5.size
    generalize shareL left (List.replicate js.length 0) = G at hr5 HFin HA1 HLn KU ⊢
    have KG := Hid.intro (implgive sb ac ar cc cr t width g cap C left L G js (.slice a1 js.length c1) (.slice a5 G.length c5) w0.heap.size D w.heap.size hLC HLt.out (by omega) HLn.out hLs HA1.out hleft hgD hDs hsbw w5 (HS2.out.kept hb5).sp (HS2.out.kept hb5).row ((HR2.out.kept (fun j h0 _ _ => hb5.block j h0)).base (by omega) (by omega)) (hr5.base (by omega) (Nat.le_refl _)))
    have HB6 := Hid.intro (k_trans HB2.out hb5)
    have HL6 := Hid.intro ((HS2.out.kept hb5).bel)
    clear KU s7
    go_wp2_with fail
    refine KG.out.mono ?_
    rintro e w6 ⟨rfl, hs6, hr6, hb6⟩
    have HF6 := Hid.intro (SpS.mk (HL6.out.trans (hb6.below HL6.out.size hg0 (by omega))) hs6 hr6)
    rw [HFin.out] at HF6
    have HK6 := Hid.intro ((Bk2.of_below HB6.out).trans hb6)
    clear hs6 hr6 hb6
    go_wp2
    go_end0
    exact ⟨rfl, ⟨_, HF6.out⟩, HK6.out⟩
  · have hl0 : (selN (kindP t 0) C).length = 0 := by omega
    go_enter Tryz.func48, Tryz.ntmps48
    go_wp2_with fail
    refine (KO.out 0 _ H.out).mono ?_
    rintro e wa ⟨va, rfl, hra, hba⟩
    obtain ⟨aa, ca, rfl⟩ := hra.form
    rw [natL_len, hl0] at hra ⊢
    have Ha := Hid.intro (H.out.kept hba)
    have HBa := Hid.intro hba
    have hza := hba.size
    clear hra hba
    go_wp2_with fail
    refine (KO.out 2 _ Ha.out).mono ?_
    rintro e w1 ⟨v1, rfl, hr1, hb1⟩
    obtain ⟨a1, c1, rfl⟩ := hr1.form
    rw [natL_len] at hr1 ⊢
    have HS1 := Hid.intro (Ha.out.kept hb1)
    have HB1 := Hid.intro (k_trans HBa.out hb1)
    have HR1 := Hid.intro hr1
    have hz1 := hb1.size
    have hmk := makeI (selN (kindP t 2) C).length (by have := selN_le (kindP t 2) C; omega)
    have hnl := selN_le (kindP t 2) C
    obtain ⟨ok1, len1, all1, give1, give0⟩ := rest_lists (P := kindP t 2) (L := L) (left := left) hLC hC hleft
    have HLt := Hid.intro (fun k (hk : k < (selN (kindP t 2) C).length) => (selN_lt hk).1)
    have HFin : Hid (giveTo L (selN (kindP t 2) C) (shareL left (List.replicate (selN (kindP t 2) C).length 0)) (selN (kindP t 2) C).length = restL t C left L) := by
      rw [Hid, restL]
      rw [if_neg hn0]
      by_cases hn2 : 0 < (selN (kindP t 2) C).length
      · rw [if_pos hn2]; exact give1 hn2
      · rw [if_neg hn2]; exact give0 (by omega)
    have HA1 := Hid.intro all1
    have HLn := Hid.intro len1
    have HOk := Hid.intro ok1
    generalize selN (kindP t 2) C = js at hr1 HR1 hmk hnl HLt HFin HA1 HLn HOk ⊢
    clear hr1 hb1 ok1 len1 all1 give1 give0
    have hA2 := k_alloc (Below.refl w1.heap.size w1) (.cells (newI js.length) 3)
    have HN := Hid.intro (row_new w1 js.length (by omega))
    have hn2 : (w1.alloc (.cells (newI js.length) 3)).heap.size = w1.heap.size + 1 := by simp
    have HS2 := Hid.intro (HS1.out.kept hA2)
    have HR2 := Hid.intro (HR1.out.kept (w' := w1.alloc (.cells (newI js.length) 3)) (fun j h0 _ _ => hA2.block j h0))
    have HB2 := Hid.intro (k_trans HB1.out hA2)
    clear HS1 HR1 HB1 hA2
    go_upto_region 4 with fail
    generalize w1.alloc (.cells (newI js.length) 3) = W2 at HN HS2 HR2 HB2 hn2 ⊢
    generalize w1.heap.size = gb at HN HR2 hn2 hz1 ⊢
    have s7 : W2.cell? ⟨sb, 7, none⟩ = some (.int .i64 left) := cellB (p := 7) HS2.out.sp
    have KU := Hid.intro (shareOut_any left _ _ HOk.out W2 HN.out.at)
    go_wp2_with fail
    refine KU.out.mono ?_
    rintro e w5 ⟨v5, rfl, hr5, hb5⟩
    obtain ⟨a5, c5, rfl⟩ := hr5.form
    have hz5 := hb5.size
    generalize shareL left (List.replicate js.length 0) = G at hr5 HFin HA1 HLn KU ⊢
    have KG := Hid.intro (implgive sb ac ar cc cr t width g cap C left L G js (.slice a1 js.length c1) (.slice a5 G.length c5) w0.heap.size D w.heap.size hLC HLt.out (by omega) HLn.out hLs HA1.out hleft hgD hDs hsbw w5 (HS2.out.kept hb5).sp (HS2.out.kept hb5).row ((HR2.out.kept (fun j h0 _ _ => hb5.block j h0)).base (by omega) (by omega)) (hr5.base (by omega) (Nat.le_refl _)))
    have HB6 := Hid.intro (k_trans HB2.out hb5)
    have HL6 := Hid.intro ((HS2.out.kept hb5).bel)
    clear KU s7
    go_wp2_with fail
    refine KG.out.mono ?_
    rintro e w6 ⟨rfl, hs6, hr6, hb6⟩
    have HF6 := Hid.intro (SpS.mk (HL6.out.trans (hb6.below HL6.out.size hg0 (by omega))) hs6 hr6)
    rw [HFin.out] at HF6
    have HK6 := Hid.intro ((Bk2.of_below HB6.out).trans hb6)
    clear hs6 hr6 hb6
    go_wp2
    go_end0
    exact ⟨rfl, ⟨_, HF6.out⟩, HK6.out⟩
end Go.Proofs.YtfkkhfiiokhnaaeGreat
namespace Go.Proofs.YtfkkhfiiokhnaaeGreat
open Go.RowKit

theorem addL_zero {L M : List Int} (hl : M.length = L.length) (hs : M.sum = 0) (hp : ∀ i, i < M.length → 0 ≤ M.getD i 0) : addL L M = L := by
  apply ext_getD (addL_len hl)
  intro i hi
  rw [addL_len hl] at hi
  rw [addL_get hl hi]
  have h1 := sum_ge hp (i := i) (by omega)
  have h2 := hp i (by omega)
  omega
theorem upTo_none {L want : List Int} (hl : want.length = L.length) (hok : shrOkB 0 want = true) : addL L (upToL 0 want) = L ∧ upToN 0 want = 0 := by
  obtain ⟨a1, a2, a3, a4, a5⟩ := upTo_total hok
  have hp : ∀ i, i < (upToL 0 want).length → 0 ≤ (upToL 0 want).getD i 0 := fun i hi => (a5 i (by omega)).1
  have hs : 0 ≤ (upToL 0 want).sum := sum_pos (fun x hx => by
    obtain ⟨j, hj, rfl⟩ := List.mem_iff_getElem.1 hx
    have := hp j hj
    rwa [show (upToL 0 want).getD j 0 = (upToL 0 want)[j] by simp [List.getD, hj]] at this)
  exact ⟨addL_zero (by omega) (by omega) hp, by omega⟩
theorem share_none {L : List Int} {P : Nat → Bool} {C : Nat} (hLC : L.length = C) (hC : C ≤ 88) (h0 : 0 < (selN P C).length) : addL L (shareL 0 (oneL P C)) = L := by
  have hok := oneL_ok P (n := C) (t := 0) (by omega) (by omega)
  have hl := shareL_len hok
  rw [oneL_len] at hl
  have hC0 : 0 < C := by have := selN_le P C; omega
  exact addL_zero (by omega) (share_sum hok (by rw [oneL_len]; exact hC0)) (fun i hi => (shareL_small i hi).1)
theorem rest_none {t : T} {C : Nat} {L : List Int} (hLC : L.length = C) (hC : C ≤ 88) : restL t C 0 L = L := by
  unfold restL
  split
  · rename_i h; exact share_none hLC hC h
  · split
    · rename_i h; exact share_none hLC hC h
    · rfl
theorem wid_rest {t : T} {width : Int} (h : 0 < restV t width) : widL t width = restL t (colN t) (left2 t width) (out2 t width) := by
  unfold widL restL
  rw [if_neg (by omega)]
theorem wid_two {t : T} (hD : Drawn t) (hok : tblB t = true) {width : Int} (hw : 0 ≤ width ∧ width ≤ 300) (hC : colN t ≤ 88) (h : 0 < restV t width) (h2 : left2 t width ≤ 0) : widL t width = out2 t width := by
  obtain ⟨_, _, hl2, _, ho2, _⟩ := wid_steps hD hok hw h
  have e : left2 t width = 0 := by omega
  rw [wid_rest h, e, rest_none ho2 hC]
theorem wid_one {t : T} (hD : Drawn t) (hok : tblB t = true) {width : Int} (hw : 0 ≤ width ∧ width ≤ 300) (hC : colN t ≤ 88) (h : 0 < restV t width) (h1 : left1 t width ≤ 0) : widL t width = out1 t width := by
  obtain ⟨ok1, ok2, hl2, ho1, ho2, _⟩ := wid_steps hD hok hw h
  have e : left1 t width = 0 := by
    have := (upTo_total ok1).2.2.1
    unfold left1 at h1 ⊢
    omega
  have e2 : out2 t width = out1 t width ∧ left2 t width = 0 := by
    unfold out2 left2
    rw [e] at ok2 ⊢
    exact upTo_none (want2_len _ _) ok2
  rw [wid_two hD hok hw hC h (by omega), e2.1]
theorem wid_no {t : T} {width : Int} (h : restV t width ≤ 0) : widL t width = leastL t := by unfold widL; rw [if_pos h]
theorem out1_wish {t : T} (hD : Drawn t) (hok : tblB t = true) {width : Int} (hw : 0 ≤ width ∧ width ≤ 300) (h : 0 < restV t width) {j : Nat} (hj : j < colN t) (hP : kindP t 0 j = true) : (out1 t width).getD j 0 ≤ (wishL t).getD j 0 := by
  obtain ⟨_, _, _, _, _, _, hk⟩ := wid_steps hD hok hw h
  have h2 : kindP t 2 j = false := by
    simp only [kindP, decide_eq_true_eq] at hP
    simp [kindP, hP]
  rw [(hk j hj).2.2.1 h2]
  have := wishL_get hj
  omega
theorem out1_small {t : T} (hD : Drawn t) (hok : tblB t = true) {width : Int} (hw : 0 ≤ width ∧ width ≤ 300) (h : 0 < restV t width) : (out1 t width).all wtB = true ∧ (out2 t width).all wtB = true := by
  obtain ⟨ok1, ok2, _, ho1, ho2, _⟩ := wid_steps hD hok hw h
  have hup := leastL_up hD
  obtain ⟨a1, a2, a3, a4, a5⟩ := upTo_total ok1
  obtain ⟨b1, b2, b3, b4, b5⟩ := upTo_total ok2
  rw [want1_len] at a1 a5
  rw [want2_len] at b1 b5
  have hr : restV t width ≤ 100000 := (shrOk_parts ok1).1.2
  have hl : left1 t width ≤ 100000 := (shrOk_parts ok2).1.2
  have hll := leastL_len t
  have s1 : ∀ i, i < colN t → 0 ≤ (out1 t width).getD i 0 ∧ (out1 t width).getD i 0 ≤ 5300 := fun i hi => by
    have h1 := a5 i (by omega)
    have h2 := hup i (by omega)
    have h3 : (out1 t width).getD i 0 = (leastL t).getD i 0 + (upToL (restV t width) (want1 t width (leastL t))).getD i 0 := by unfold out1; exact addL_get (by omega) (by omega)
    rw [want1_get (by omega)] at h1
    have hk := sd_kind (t := t) hi
    have hps := fun hn => part_small hw (n := (sd t.cols i).2) hn
    split at h1
    · rename_i hP
      simp only [kindP, decide_eq_true_eq] at hP
      have := hps (by omega)
      omega
    · omega
  refine ⟨all_wt (fun i hi => by have := s1 i (by omega); omega), all_wt (fun i hi => ?_)⟩
  have h1 := b5 i (by omega)
  have h2 := s1 i (by omega)
  have h3 : (out2 t width).getD i 0 = (out1 t width).getD i 0 + (upToL (left1 t width) (want2 t (out1 t width))).getD i 0 := by unfold out2; exact addL_get (by omega) (by omega)
  rw [want2_get (by omega)] at h1
  have h4 := wishL_up hD i (by rw [wishL_len]; omega)
  split at h1 <;> omega
end Go.Proofs.YtfkkhfiiokhnaaeGreat
namespace Go.Proofs.YtfkkhfiiokhnaaeGreat
open Go.RowKit Go.BigFrame

/-- a cell of a grid, as it stands in its table -/
def cellAt (t : T) (x : GC) : C := (t.rows.getD x.row.toNat dR).cells.getD x.ins.toNat dC
set_option maxRecDepth 100000 in
set_option maxHeartbeats 2000000 in
theorem implcellOf (ac ar : Option Addr) (cc cr : Nat) (t : T) (x : GC) {C : Nat} (hx : Cel t C x) (w : World) {z : Nat} (hr : RowsAt w z (.slice ar t.rows.length cr) t.rows) :
    Calls Tryz.prog 97 #[.agg #[.slice ac t.cols.length cc, .int .i64 t.head, .int .i64 t.foot, .slice ar t.rows.length cr, .int .i64 t.gap], .agg #[.int .i64 x.row, .int .i64 x.col, .int .i64 x.rows, .int .i64 x.cols, .int .i64 x.ins]] w fun e w' => e = .returned (.agg #[.string (cellAt t x).s, .int .i64 (cellAt t x).c, .int .i64 (cellAt t x).r, .int .i64 (cellAt t x).a1, .int .i64 (cellAt t x).b1, .int .i64 (cellAt t x).a2, .int .i64 (cellAt t x).b2, .int .i64 (cellAt t x).a3, .int .i64 (cellAt t x).b3, .int .i64 (cellAt t x).a4, .int .i64 (cellAt t x).b4]) ∧ (cellAt t x).s.size ≤ maxLen ∧ Below w.heap.size w w' := by
  obtain ⟨rn, jn, cn, mn, e1, e2, e3, e4, h1, h2, h3, h4, h5⟩ := hx.ex
  have HTx : Hid (cellAt t x = (t.rows.getD rn dR).cells.getD jn dC) := by rw [Hid, cellAt, e1, e2, Int.toNat_natCast, Int.toNat_natCast]
  have hmx : Tryz.prog.follows .mixedOrders = true := by kernel_rfl
  have K1 := k_alloc (Below.refl w.heap.size w) (.cells #[.slice ac t.cols.length cc, .int .i64 t.head, .int .i64 t.foot, .slice ar t.rows.length cr, .int .i64 t.gap] 26)
  have X1 := newestB w (.cells #[.slice ac t.cols.length cc, .int .i64 t.head, .int .i64 t.foot, .slice ar t.rows.length cr, .int .i64 t.gap] 26)
  have hs1 : (w.alloc (.cells #[.slice ac t.cols.length cc, .int .i64 t.head, .int .i64 t.foot, .slice ar t.rows.length cr, .int .i64 t.gap] 26)).heap.size = w.heap.size + 1 := by simp
  rw [e1, e2]
  clear e1 e2 e3 e4
  go_enter Tryz.func97, Tryz.ntmps97
  go_upto_region 1 with fail
  have K2 := k_alloc K1 (.cells #[.int .i64 (rn : Int), .int .i64 x.col, .int .i64 x.rows, .int .i64 x.cols, .int .i64 (jn : Int)] 49)
  have X2 := newestB (w.alloc (.cells #[.slice ac t.cols.length cc, .int .i64 t.head, .int .i64 t.foot, .slice ar t.rows.length cr, .int .i64 t.gap] 26)) (.cells #[.int .i64 (rn : Int), .int .i64 x.col, .int .i64 x.rows, .int .i64 x.cols, .int .i64 (jn : Int)] 49)
  have X1' := (Below.heap_alloc (w.alloc (.cells #[.slice ac t.cols.length cc, .int .i64 t.head, .int .i64 t.foot, .slice ar t.rows.length cr, .int .i64 t.gap] 26)) (.cells #[.int .i64 (rn : Int), .int .i64 x.col, .int .i64 x.rows, .int .i64 x.cols, .int .i64 (jn : Int)] 49) w.heap.size (by omega)).trans X1
  rw [hs1] at X2
  have hs2 : ((w.alloc (.cells #[.slice ac t.cols.length cc, .int .i64 t.head, .int .i64 t.foot, .slice ar t.rows.length cr, .int .i64 t.gap] 26)).alloc (.cells #[.int .i64 (rn : Int), .int .i64 x.col, .int .i64 x.rows, .int .i64 x.cols, .int .i64 (jn : Int)] 49)).heap.size = w.heap.size + 2 := by simp
  generalize (w.alloc (.cells #[.slice ac t.cols.length cc, .int .i64 t.head, .int .i64 t.foot, .slice ar t.rows.length cr, .int .i64 t.gap] 26)).alloc (.cells #[.int .i64 (rn : Int), .int .i64 x.col, .int .i64 x.rows, .int .i64 x.cols, .int .i64 (jn : Int)] 49) = W2 at K2 X2 X1' hs2 ⊢
  have K3 := k_alloc K2 (.cells #[.string ⟨#[]⟩, .int .i64 0, .int .i64 0, .int .i64 0, .int .i64 0, .int .i64 0, .int .i64 0, .int .i64 0, .int .i64 0, .int .i64 0, .int .i64 0] 70)
  have X3 := newestB W2 (.cells #[.string ⟨#[]⟩, .int .i64 0, .int .i64 0, .int .i64 0, .int .i64 0, .int .i64 0, .int .i64 0, .int .i64 0, .int .i64 0, .int .i64 0, .int .i64 0] 70)
  have X1'' := (Below.heap_alloc W2 (.cells #[.string ⟨#[]⟩, .int .i64 0, .int .i64 0, .int .i64 0, .int .i64 0, .int .i64 0, .int .i64 0, .int .i64 0, .int .i64 0, .int .i64 0, .int .i64 0] 70) w.heap.size (by omega)).trans X1'
  have X2' := (Below.heap_alloc W2 (.cells #[.string ⟨#[]⟩, .int .i64 0, .int .i64 0, .int .i64 0, .int .i64 0, .int .i64 0, .int .i64 0, .int .i64 0, .int .i64 0, .int .i64 0, .int .i64 0] 70) (w.heap.size + 1) (by omega)).trans X2
  rw [show W2.heap.size = w.heap.size + 1 + 1 by omega] at X3
  generalize W2.alloc (.cells #[.string ⟨#[]⟩, .int .i64 0, .int .i64 0, .int .i64 0, .int .i64 0, .int .i64 0, .int .i64 0, .int .i64 0, .int .i64 0, .int .i64 0, .int .i64 0] 70) = W at K3 X3 X1'' X2' ⊢
  clear K1 X1 hs1 K2 X2 X1' hs2
  obtain ⟨rb, roff, rcap, re, rc1, rc2, rbl, u, hu0, _, hu⟩ := At.get (hr.kept K3) h1
  simp only [Value.slice.injEq, true_and] at re
  obtain ⟨rfl, rfl⟩ := re
  obtain ⟨qb, qoff, qcap, qe, qc1, qc2, qbl, hv, hsl⟩ := At.get hu h2
  subst qe
  obtain ⟨v0, v1, v2, v3, v4, v5, v6, v7, v8, v9, v10⟩ := hv
  have l1 : w.heap.size < W.heap.size := (Array.getElem?_eq_some_iff.1 X1'').1
  have l2 : w.heap.size + 1 < W.heap.size := (Array.getElem?_eq_some_iff.1 X2').1
  have hne := bw_some W
  have m0 := bw_cell (a := ⟨w.heap.size, 3, none⟩) l1 (cellB (p := 3) X1'')
  have m1 := bw_cell (a := ⟨w.heap.size + 1, 0, none⟩) l2 (cellB (p := 0) X2')
  have m2 := bw_cell (a := ⟨w.heap.size + 1, 4, none⟩) l2 (cellB (p := 4) X2')
  have m3 := bw_cell rbl hu0
  have n0 := bw_cell qbl v0
  have n1 := bw_cell qbl v1
  have n2 := bw_cell qbl v2
  have n3 := bw_cell qbl v3
  have n4 := bw_cell qbl v4
  have n5 := bw_cell qbl v5
  have n6 := bw_cell qbl v6
  have n7 := bw_cell qbl v7
  have n8 := bw_cell qbl v8
  have n9 := bw_cell qbl v9
  have n10 := bw_cell qbl v10
  have HSZ : Hid ((cellAt t x).s.size ≤ maxLen) := by rw [Hid, HTx.out]; exact hsl
  have HK := Hid.intro K3
  have HX3 := Hid.intro X3
  unfold maxLen at rc2 qc2
  generalize (t.rows.getD rn dR).cells.getD jn dC = y at *
  generalize (t.rows.getD rn dR).cells.length = rl at h2 m3 qc1
  clear hu hu0 hr h3 h4 h5 hx K3 X3 X1'' X2' v0 v1 v2 v3 v4 v5 v6 v7 v8 v9 v10 hsl
  refine wp_region_last 11 hmx (by rfl) (by rfl) (by kernel_rfl) (by kernel_rfl) ?_
  simp only [List.take_succ_cons, List.take_zero]
  repeat (go_big_quiet_step (fail))
  refine wpQuiet_nil ?_
  intro W5 hw'
  obtain ⟨⟨Wx, hW5⟩, hw''⟩ := hw'
  subst hw''
  have l3 : w.heap.size + 1 + 1 < W.heap.size := (Array.getElem?_eq_some_iff.1 HX3.out).1
  have X5 := (hW5.block _ l3).trans HX3.out
  obtain ⟨⟨c0, c1, c2, c3, c4, c5, c6, c7, c8, c9, c10⟩, f0, f1, f2, f3, f4, f5, f6, f7, f8, f9, f10⟩ := cells11 X5
  have HK5 := Hid.intro (k_trans HK.out hW5)
  clear m0 m1 m2 m3 n0 n1 n2 n3 n4 n5 n6 n7 n8 n9 n10 hne hW5 X5
  rw [if_pos (by rfl)]
  go_simp
  go_wp2
  exact bodyPost_ret (v := .agg #[.string y.s, .int .i64 y.c, .int .i64 y.r, .int .i64 y.a1, .int .i64 y.b1, .int .i64 y.a2, .int .i64 y.b2, .int .i64 y.a3, .int .i64 y.b3, .int .i64 y.a4, .int .i64 y.b4]) (by simp [results, Tryz.results97, go_sem, c0, c1, c2, c3, c4, c5, c6, c7, c8, c9, c10]) rfl ⟨by rw [HTx.out], HSZ.out, HK5.out.trans ((st11_bk W5 (w.heap.size + 1 + 1) (.string y.s) (.int .i64 y.c) (.int .i64 y.r) (.int .i64 y.a1) (.int .i64 y.b1) (.int .i64 y.a2) (.int .i64 y.b2) (.int .i64 y.a3) (.int .i64 y.b3) (.int .i64 y.a4) (.int .i64 y.b4)).below HK5.out.size (by omega))⟩
end Go.Proofs.YtfkkhfiiokhnaaeGreat
namespace Go.Proofs.YtfkkhfiiokhnaaeGreat
open Go.RowKit

theorem text_size {t : T} {x : GC} {C : Nat} (hx : Cel t C x) {w : World} {z : Nat} {v : Value} (hr : RowsAt w z v t.rows) : (textOf t x).size ≤ maxLen := by
  obtain ⟨rn, jn, cn, mn, e1, e2, e3, e4, h1, h2, h3, h4, h5⟩ := hx.ex
  rw [textOf, e1, e2, Int.toNat_natCast, Int.toNat_natCast]
  obtain ⟨rb, roff, rcap, re, rc1, rc2, rbl, u, hu0, _, hu⟩ := At.get hr h1
  obtain ⟨qb, qoff, qcap, qe, qc1, qc2, qbl, hv, hsl⟩ := At.get hu h2
  exact hsl
theorem field_first (s : ByteArray) (x1 x2 x3 x4 x5 x6 x7 x8 x9 x10 : Value) (W : World) : (Instr.field 70 (.agg #[.string s, x1, x2, x3, x4, x5, x6, x7, x8, x9, x10]) 0).run Tryz.prog W = .ok (.string s) W := by kernel_rfl
set_option maxRecDepth 100000 in
set_option maxHeartbeats 2000000 in
theorem impltextOf (ac ar : Option Addr) (cc cr : Nat) (t : T) (x : GC) {C : Nat} (hx : Cel t C x) (w : World) {z : Nat} (hr : RowsAt w z (.slice ar t.rows.length cr) t.rows) :
    Calls Tryz.prog 59 #[.agg #[.slice ac t.cols.length cc, .int .i64 t.head, .int .i64 t.foot, .slice ar t.rows.length cr, .int .i64 t.gap], .agg #[.int .i64 x.row, .int .i64 x.col, .int .i64 x.rows, .int .i64 x.cols, .int .i64 x.ins]] w fun e w' => e = .returned (.string (textOf t x)) ∧ (textOf t x).size ≤ maxLen ∧ Below w.heap.size w w' := by
  have HC := Hid.intro (implcellOf ac ar cc cr t x hx)
  have hfl := field_first
  have K2 := k_alloc (k_alloc (Below.refl w.heap.size w) (.cells #[.slice ac t.cols.length cc, .int .i64 t.head, .int .i64 t.foot, .slice ar t.rows.length cr, .int .i64 t.gap] 26)) (.cells #[.int .i64 x.row, .int .i64 x.col, .int .i64 x.rows, .int .i64 x.cols, .int .i64 x.ins] 49)
  have HR := Hid.intro (hr.kept K2)
  have HK := Hid.intro K2
  clear hr hx K2
  go_enter Tryz.func59, Tryz.ntmps59
  go_wp2_with fail
  refine (HC.out _ HR.out).mono ?_
  rintro e w1 ⟨rfl, hsz, hb1⟩
  have HK1 := Hid.intro (k_trans HK.out hb1)
  clear hb1 HK HR HC
  go_wp2
  go_ret
  exact ⟨rfl, hsz, HK1.out⟩
end Go.Proofs.YtfkkhfiiokhnaaeGreat
