/-
  PROVED HERE: what the model's TxtLines answers: a text's lines, in new memory; nothing that was in memory is turned.
-/
import Derived.Test.YtfkfgmfahoeaoaaLnI
import Derived.Test.YtfkfgmfahoeaoaaWdCut
import Derived.Test.YtfkfgmfahoeaoaaStrRow
import Derived.Deep.QuietTactic
import Derived.BigQuiet
import Derived.WalkLawsBesides
import Derived.WalkSpells
import Derived.RegionTactic
namespace Go.Proofs.Ytfkfgmfahoeaoaa
open Go.RowKit

theorem infoLs : (Try.prog.info? 9).map (fun i => (i.zero, i.size, i.bytes)) = some (some (Value.string ⟨#[]⟩), 1, 16) := by kernel_rfl
/-- where no line is being built there is none -/
def LnOk (st : List ByteArray × ByteArray) : Prop := st.2.size = 0 → st.1 = []
theorem lnOk_step (q : Int) (st : List ByteArray × ByteArray) (x : W30) : LnOk (stepLn q st x.1) := by
  have hx := x.2.1
  intro h0
  unfold stepLn at h0 ⊢
  by_cases h1 : 0 < st.2.size
  · by_cases h2 : q < (st.2.size : Int) + 1 + x.1.size
    · rw [if_pos h1, if_pos h2] at h0; dsimp only at h0; omega
    · rw [if_pos h1, if_neg h2] at h0; dsimp only at h0; rw [ByteArray.size_append] at h0; omega
  · rw [if_neg h1] at h0; dsimp only at h0; omega
theorem lnOk_all (q : Int) (ws : List W30) : LnOk (lnSt q ws) := by
  suffices h : ∀ (l : List W30) (st : List ByteArray × ByteArray), LnOk st → LnOk (l.foldl (fun st x => stepLn q st x.1) st) from h ws _ (fun _ => rfl)
  intro l
  induction l with
  | nil => intro st h; exact h
  | cons x r ih => intro st _; exact ih _ (lnOk_step q st x)
/-- the last line -/
def lastLn (l : List ByteArray) : ByteArray := l.getD (l.length - 1) eS
theorem out_nil {q : Int} {st : List ByteArray × ByteArray} (hok : LnOk st) (h : (lnOut st).length = 0) (x : W30) : lnOut (stepLn q st x.1) = lnOut st ++ [x.1] := by
  obtain ⟨lines, line⟩ := st
  have h0 : ¬ 0 < line.size := fun h0 => by simp [lnOut, h0] at h
  have hl : lines = [] := hok (show line.size = 0 by omega)
  subst hl
  have hx := x.2.1
  simp [stepLn, lnOut, h0, hx]
theorem out_line {st : List ByteArray × ByteArray} (h : (lnOut st).length ≠ 0) (hok : LnOk st) : 0 < st.2.size ∧ lnOut st = st.1 ++ [st.2] ∧ lastLn (lnOut st) = st.2 := by
  obtain ⟨lines, line⟩ := st
  have h0 : 0 < line.size := by
    rcases Nat.eq_zero_or_pos line.size with h0 | h0
    · have hl : lines = [] := hok h0
      subst hl
      simp [lnOut, h0] at h
    · exact h0
  have e : lnOut (lines, line) = lines ++ [line] := by simp [lnOut, h0]
  refine ⟨h0, e, ?_⟩
  rw [e]
  simp [lastLn, List.getD]
theorem out_break {q : Int} {st : List ByteArray × ByteArray} (hok : LnOk st) (h : (lnOut st).length ≠ 0) (x : W30) (hq : q < ((lastLn (lnOut st)).size : Int) + 1 + x.1.size) : lnOut (stepLn q st x.1) = lnOut st ++ [x.1] := by
  obtain ⟨h1, h2, h3⟩ := out_line h hok
  rw [h3] at hq
  have hx := x.2.1
  have e : stepLn q st x.1 = (st.1 ++ [st.2], x.1) := by unfold stepLn; rw [if_pos h1, if_pos hq]
  rw [e, h2]
  simp [lnOut, hx]
theorem out_fits {q : Int} {st : List ByteArray × ByteArray} (hok : LnOk st) (h : (lnOut st).length ≠ 0) (x : W30) (hq : ¬ q < ((lastLn (lnOut st)).size : Int) + 1 + x.1.size) : lnOut (stepLn q st x.1) = (lnOut st).set ((lnOut st).length - 1) (lastLn (lnOut st) ++ ⟨#[32]⟩ ++ x.1) := by
  obtain ⟨h1, h2, h3⟩ := out_line h hok
  rw [h3] at hq ⊢
  have hx := x.2.1
  have e : stepLn q st x.1 = (st.1, st.2 ++ ⟨#[32]⟩ ++ x.1) := by unfold stepLn; rw [if_pos h1, if_neg hq]
  have hp : 0 < (st.2 ++ ⟨#[32]⟩ ++ x.1).size := by rw [ByteArray.size_append]; omega
  rw [e, h2]
  simp only [lnOut, hp, if_true, List.length_append, List.length_cons, List.length_nil, Nat.add_sub_cancel, Nat.zero_add]
  rw [List.set_append_right _ _ (Nat.le_refl _)]
  simp
theorem out_bound (q : Int) (ws : List W30) : (lnOut (lnSt q ws)).length ≤ ws.length + 1 ∧ (lastLn (lnOut (lnSt q ws))).size ≤ 31 * ws.length := by
  obtain ⟨h1, h2⟩ := lnSt_bound q ws
  constructor
  · unfold lnOut
    split
    · simp; omega
    · omega
  · rcases Nat.eq_zero_or_pos (lnOut (lnSt q ws)).length with h | h
    · have : lnOut (lnSt q ws) = [] := List.eq_nil_of_length_eq_zero h
      rw [this]
      simp [lastLn, eS]
    · rw [(out_line (by omega) (lnOk_all q ws)).2.2]; exact h2
theorem lnSt_take {q : Int} {l : List W30} {k : Nat} (h : k < l.length) : lnSt q (l.take (k + 1)) = stepLn q (lnSt q (l.take k)) l[k].1 := by
  rw [List.take_succ_eq_append_getElem h, lnSt_snoc]
theorem row_owns {w : World} {B : Nat} {v : Value} {l : List ByteArray} (h : RowS w B v l) : w.ownsRow B 9 1 v l.length (l.map Value.string) := by
  refine ⟨by simp, ?_⟩
  rcases h with ⟨hv, rfl⟩ | ⟨g, cap, cur, hv, hb, hg, h1, h2, h3, h4⟩
  · exact Or.inl ⟨hv, rfl⟩
  · refine Or.inr ⟨g, cap, cur, hv, hb, hg, h1, h2, by omega, ?_⟩
    apply List.ext_getElem?
    intro i
    rw [Nat.mul_one]
    by_cases hi : i < l.length
    · rw [List.getElem?_take_of_lt hi, Array.getElem?_toList, h4 i hi]
      simp [List.getD, hi]
    · rw [List.getElem?_eq_none (by simp; omega), List.getElem?_eq_none (by simp; omega)]

set_option maxRecDepth 100000 in
set_option maxHeartbeats 2000000 in
theorem specTxtLines (s : ByteArray) (hs : s.size ≤ maxLen) (q : Int) (hq : -9223372036854775808 ≤ q ∧ q ≤ 9223372036854775807) (w : World) :
    Calls Try.prog 22 #[.string s, .int .i64 q] w fun e w' => ∃ v, e = .returned v ∧ RowS w' w.heap.size v (lnOut (lnSt q (wordsW s))) ∧ Below w.heap.size w w' := by
  obtain ⟨i0, hi, hz0, hz1, hz2⟩ := info_parts infoLs
  have hwl := wordsW_len s
  have HW := Hid.intro (specTxtWords s hs)
  generalize wordsW s = l at HW hwl ⊢
  go_enter Try.func22, Try.ntmps22
  go_wp2_with fail
  refine (HW.out _).mono ?_
  rintro e w1 ⟨v1, rfl, hv1, hb1⟩
  have V1 := Hid.intro hv1
  have K1 := Hid.intro hb1
  obtain ⟨a1, c1, rfl⟩ := words_form hv1
  have hsz1 := hb1.size
  clear hv1 hb1
  go_wp2_with fail
  go_loopw [6, 7] (fun o i W => ∃ k : Nat, k ≤ l.length ∧ i = .int .i64 k ∧ Hid (RowS W w1.heap.size o (lnOut (lnSt q (l.take k)))) ∧ Hid (Below w1.heap.size w1 W)) (fun _ i _ => l.length - (intOf i).toNat)
  case atStart => exact ⟨0, Nat.zero_le _, rfl, RowS.of_owns (World.ownsRow_made w1 #[] 0 (Nat.le_refl _) (Nat.zero_le _) rfl), k_alloc (Below.refl _ _) _⟩
  case round =>
    obtain ⟨k, hk, rfl, HR, HB⟩ := hrel
    by_cases hlt : k < l.length
    · obtain ⟨g, cap', e', h1, h2, hx⟩ := wordsAt (ownsRow_keptS V1.out HB.out) hlt
      simp only [Value.slice.injEq, true_and] at e'
      obtain ⟨rfl, rfl⟩ := e'
      have h3 := l[k].2
      have HT := Hid.intro (lnSt_take (q := q) hlt)
      obtain ⟨hb1, hb2⟩ := out_bound q (l.take k)
      have hok := Hid.intro (lnOk_all q (l.take k))
      have htl : (l.take k).length ≤ 30 := by rw [List.length_take]; omega
      have HN := Hid.intro (fun h => out_nil (q := q) hok.out h l[k])
      have HK := Hid.intro (fun h => out_break (q := q) hok.out h l[k])
      have HF := Hid.intro (fun h => out_fits (q := q) hok.out h l[k])
      rw [← HT.out] at HN HK HF
      generalize l[k] = x at hx h3 HN HK HF
      generalize hout : lnOut (lnSt q (l.take k)) = out at HR HN HK HF hb1 hb2
      clear hout HT hok
      obtain ⟨ao, co, rfl⟩ := HR.out.form
      unfold maxLen at h2
      have hbs := HB.out.size
      by_cases hn0 : out.length = 0
      · have hd : decide ((0 : Int) < (out.length : Int)) = false := decide_eq_false (by omega)
        have HE := Hid.intro (HN.out hn0)
        obtain rfl : out = [] := List.eq_nil_of_length_eq_zero hn0
        clear hn0 hd HK HF HN
        have hd : decide ((0 : Int) < (0 : Int)) = false := rfl
        go_wp2_with fail
        go_quiet (fail)
        have hO : (wr.drewN nq).ownsRow w1.heap.size 9 1 (.slice ao 0 co) 0 [] := row_owns HR.out
        go_wp2_with (at_builtin; refine wpList_append_own _ rfl _ _ 24 rfl w1.heap.size 9 i0 (.string ⟨#[]⟩) 1 16 Try.underlying24 hi hz0 hz1 hz2 rfl (by decide) _ _ _ rfl (hO.alloc _) ⟨wr.heap.size, 0, none⟩ 1 1 [.string x.1] rfl rfl ?c1 ?c2 ?c3 ?c4 ?c5 ?_)
        case c1 => exact cell_one_new (wr.drewN nq) (.string x.1) 9
        case c2 => intro u hu; simp at hu; subst hu; rfl
        case c3 => unfold maxLen; omega
        case c4 => omega
        case c5 => simp; omega
        intro v' w2 hown' hgrow' _
        have HB2 := Hid.intro ((k_alloc (k_drewN HB.out nq) (.cells #[.string x.1] 9)).grown hgrow' (by simp; omega) (fun b hb => (hO.lt b hb).1))
        have HR2 : Hid (RowS w2 w1.heap.size v' (lnOut (lnSt q (l.take (k + 1))))) := by
          show RowS _ _ _ _
          rw [HE.out]
          exact RowS.of_owns hown'
        obtain ⟨g', cap', rfl⟩ := Joins.ownsRow_form hown' (by omega)
        clear hown' hgrow' hO HR HB
        go_wp2
        go_roundw
        case rel => exact ⟨k + 1, by omega, by go_num, HR2, HB2⟩
        case measure => simp [intOf]; omega
      · obtain ⟨m, hm⟩ := Nat.exists_eq_succ_of_ne_zero hn0
        obtain ⟨go, co', e', hgo, hgs, hc1, hc2, hy, hfy⟩ := HR.out.get (i := out.length - 1) (by omega)
        simp only [Value.slice.injEq, true_and] at e'
        obtain ⟨rfl, rfl⟩ := e'
        have hyl : out.getD (out.length - 1) eS = lastLn out := rfl
        rw [hyl] at hy
        have hm1 : out.length - 1 = m := by omega
        have hm2 : out.length = m + 1 := hm
        have HR0 := Hid.intro (row_owns HR.out)
        have HRs := Hid.intro (fun y => HR.out.set (i := out.length - 1) (by omega) y)
        have HKo := Hid.intro (HK.out hn0)
        have HFo := Hid.intro (HF.out hn0)
        generalize lastLn out = y at hy hb2 HKo HFo
        rw [hm1] at hy hfy HRs HFo
        rw [hm2] at hc1 HR0 HRs
        rw [hm2]
        unfold maxLen at hc2
        have hd : decide ((0 : Int) < ((m : Int) + 1)) = true := decide_eq_true (by omega)
        by_cases hqq : q < (y.size : Int) + 1 + x.1.size
        · have hdq : decide ((y.size : Int) + 1 + (x.1.size : Int) ≤ q) = false := decide_eq_false (by omega)
          have HE := Hid.intro (HKo.out hqq)
          go_wp2_with fail
          go_quiet (fail)
          have hO : (wr.drewN nq).ownsRow w1.heap.size 9 1 (.slice (some ⟨go, 0, none⟩) (m + 1) co) (m + 1) (out.map Value.string) := HR0.out
          go_wp2_with (at_builtin; refine wpList_append_own _ rfl _ _ 24 rfl w1.heap.size 9 i0 (.string ⟨#[]⟩) 1 16 Try.underlying24 hi hz0 hz1 hz2 rfl (by decide) _ _ _ rfl (hO.alloc _) ⟨wr.heap.size, 0, none⟩ 1 1 [.string x.1] rfl rfl ?c1 ?c2 ?c3 ?c4 ?c5 ?_)
          case c1 => exact cell_one_new (wr.drewN nq) (.string x.1) 9
          case c2 => intro u hu; simp at hu; subst hu; rfl
          case c3 => unfold maxLen; omega
          case c4 => omega
          case c5 => simp; omega
          intro v' w2 hown' hgrow' _
          have HB2 := Hid.intro ((k_alloc (k_drewN HB.out nq) (.cells #[.string x.1] 9)).grown hgrow' (by simp; omega) (fun b hb => (hO.lt b hb).1))
          have HR2 : Hid (RowS w2 w1.heap.size v' (lnOut (lnSt q (l.take (k + 1))))) := by
            show RowS _ _ _ _
            rw [HE.out]
            exact RowS.of_owns (by rw [List.length_append, List.map_append, hm2]; exact hown')
          obtain ⟨g', cap', rfl⟩ := Joins.ownsRow_form hown' (by omega)
          clear hown' hgrow' hO HR HB
          go_wp2
          go_roundw
          case rel => exact ⟨k + 1, by omega, by go_num, HR2, HB2⟩
          case measure => simp [intOf]; omega
        · have hdq : decide ((y.size : Int) + 1 + (x.1.size : Int) ≤ q) = true := decide_eq_true (by omega)
          have HE := Hid.intro (HFo.out hqq)
          have hz3 : ¬ 9223372036854775807 < y.size + 1 := by omega
          have hz4 : ¬ 9223372036854775807 < y.size + 1 + x.1.size := by omega
          go_wp2_with fail
          go_quiet (fail)
          go_wp2_with fail
          have hy' : (wr.drewN nq).cell? ⟨go, m, none⟩ = some (.string y) := hy
          have hx' : (wr.drewN nq).cell? ⟨g, k, none⟩ = some (.string x.1) := hx
          have hf' : (wr.drewN nq).frozen? ⟨go, m, none⟩ = false := hfy
          have HB1 := Hid.intro (k_drewN HB.out nq)
          have HR1 : Hid (∀ y, RowS ((wr.drewN nq).setCell ⟨go, m, none⟩ (.string y)) w1.heap.size (.slice (some ⟨go, 0, none⟩) (m + 1) co) (out.set m y)) := HRs
          clear hy hx hfy HR HRs HR0 HN HK HF HKo HFo HB
          generalize wr.drewN nq = W1 at hy' hx' hf' HB1 HR1 ⊢
          go_region
          all_goals
            go_wp2
            go_roundw
            case rel => exact ⟨k + 1, by omega, by go_num, by rw [HE.out]; exact HR1.out _, Below.drew ((HB1.out).setCell (p := ⟨go, m, none⟩) hgo _)⟩
            case measure => simp [intOf]; omega
    · obtain rfl : k = l.length := by omega
      rw [List.take_length] at HR
      obtain ⟨ao, co, rfl⟩ := HR.out.form
      go_wp2
      go_ret
      exact ⟨_, rfl, HR.out.base hsz1, k_trans K1.out HB.out⟩
end Go.Proofs.Ytfkfgmfahoeaoaa
