/-
  PROVED HERE: what the model's TxtWords answers: a text's words, in new memory; nothing that was in memory is turned. Also: what the model's TxtLeast answers: how long the longest of a text's words is; nothing that was in memory is turned. Also: what the model's TxtWish answers. Also: what the model's sum answers of lists of numbers in memory; nothing that was in memory is turned. Also: what the model's l4Next answers of lists in memory; the four rows that the model's l4Share keeps.
-/
import Derived.Test.YtmdghonefdmihaeB35
import Derived.Laws.AppendOwn
import Derived.Laws.Externs
import Derived.Lib.Walk
import Derived.Lib.Slices
import Derived.Deep.RegionWith
import Derived.Deep.QuietTactic
import Derived.BigQuiet
import Derived.Maps.AppendAt
namespace Go.Proofs.Ytmdghonefdmihae
open Go.RowKit

theorem infoSt : (Try.prog.info? 9).map (fun i => (i.zero, i.size, i.bytes)) = some (some (Value.string ⟨#[]⟩), 1, 16) := by kernel_rfl
theorem strs_len (out : List ByteArray) : (out.map Value.string).length = out.length := List.length_map ..
theorem extract_next {s : ByteArray} {j k : Nat} (hj : j ≤ k) (hk : k < s.size) : s.extract j k ++ ⟨#[s[k]]⟩ = s.extract j (k + 1) := by
  apply Go.WideShapes.bytes_inj
  rw [Joins.data_append, ByteArray.data_extract, ByteArray.data_extract]
  have hk' : k < s.data.size := hk
  rw [Array.toList_extract, Array.toList_extract]
  have e : s[k] = s.data.toList[k]'(by simpa using hk') := rfl
  rw [e]
  simp only [List.extract_eq_take_drop]
  rw [show k + 1 - j = (k - j) + 1 by omega, List.take_succ_eq_append_getElem (by rw [List.length_drop]; simp; omega), List.getElem_drop]
  simp [show j + (k - j) = k by omega]

set_option maxRecDepth 100000 in
set_option maxHeartbeats 1000000 in
theorem specCut (s : ByteArray) (hok : txtOkB s = true) (hz : 0 < s.size) (w : World) :
    Calls Try.prog 90 #[.string s] w fun e w' => ∃ v, e = .returned v ∧ w'.ownsRow w.heap.size 9 1 v (wordsFrom s 0).length ((wordsFrom s 0).map Value.string) ∧ Below w.heap.size w w' := by
  obtain ⟨i0, hi, hz0, hz1, hz2⟩ := info_parts infoSt
  have h30 : s.size ≤ 30 := ((txtOkB_iff s).1 hok).1
  go_enter Try.func90, Try.ntmps90
  go_wp2_with fail
  go_loopw [3, 4, 5] (fun o c i W => ∃ (k j : Nat) (out : List ByteArray), k ≤ s.size ∧ i = .int .i64 k ∧ c = .string (s.extract j k) ∧ j ≤ k ∧ j < s.size ∧ Hid (∀ m, j ≤ m → m < k → ch s m ≠ 32) ∧ Hid (Start s j) ∧ Hid (wordsFrom s 0 = out ++ wordsFrom s j) ∧ Hid (W.ownsRow w.heap.size 9 1 o out.length (out.map Value.string)) ∧ Hid (Below w.heap.size w W)) (fun _ _ i _ => s.size - (intOf i).toNat)
  case atStart => exact ⟨0, 0, [], Nat.zero_le _, rfl, congrArg Value.string (by rw [ByteArray.extract_same]; rfl), Nat.le_refl _, hz, fun m h1 h2 => absurd h2 (Nat.not_lt_zero _), start_zero hok, (List.nil_append _).symm, World.ownsRow_made w #[] 0 (Nat.le_refl _) (Nat.zero_le _) rfl, k_alloc (Below.refl _ _) _⟩
  case round =>
    obtain ⟨k, j, out, hk, rfl, rfl, hj, hjk, HN, HS, HO, HR, HB⟩ := hrel
    have hol : out.length ≤ s.size := by have := wordsFrom_len s 0; rw [HO.out] at this; simp at this; omega
    by_cases hlt : k < s.size
    · have HC : Hid (ch s k = (s[k].toNat : Int)) := ch_at hlt
      by_cases hc : (s[k].toNat : Int) = 32
      · have hc' : ((s[k].toNat : Int) == 32) = true := beq_iff_eq.2 hc
        go_wp2_with (at_builtin; refine wpList_append_own _ rfl _ _ 105 rfl w.heap.size 9 i0 (.string ⟨#[]⟩) 1 16 Try.underlying105 hi hz0 hz1 hz2 rfl (by decide) _ _ _ rfl (HR.out.alloc _) ⟨wr.heap.size, 0, none⟩ 1 1 [.string (s.extract j k)] rfl rfl ?c1 ?c2 ?c3 ?c4 ?c5 ?_)
        case c1 =>
          intro i u hi
          match i, hi with
          | 0, hi => simp at hi; subst hi; simp [Addr.add]
        case c2 => intro u hu; simp at hu; subst hu; rfl
        case c3 => unfold maxLen; omega
        case c4 => omega
        case c5 => have := HB.out.size; simp; omega
        intro v' w2 hown' hgrow' _
        have HB2 := Hid.intro ((k_alloc HB.out (.cells #[.string (s.extract j k)] 9)).grown hgrow' (by have := HB.out.size; simp; omega) (fun b hb => (HR.out.lt b hb).1))
        have HE : Hid (wend s j = k) := wend_of HN.out hj (Nat.le_of_lt hlt) (fun _ => HC.out.trans hc)
        have hk1 : k + 1 < s.size := by
          have hg := ((txtOkB_iff s).1 hok).2 k hlt
          simp [goodB, HC.out.trans hc] at hg
          omega
        have HW2 : Hid (wordsFrom s 0 = (out ++ [s.extract j k]) ++ wordsFrom s (k + 1)) := by
          show _ = _
          rw [HO.out, wordsFrom_go hjk, HE.out]; simp
        have HS2 : Hid (Start s (k + 1)) := by
          have := (start_next hok hjk HS.out).2.2.1
          rw [HE.out] at this
          exact this
        have HR2 := Hid.intro hown'
        obtain ⟨g', cap', rfl⟩ := Joins.ownsRow_form hown' (by omega)
        clear hown' hgrow' HR HB
        go_wp2
        go_roundw
        case rel => exact ⟨k + 1, k + 1, out ++ [s.extract j k], by omega, by go_num, congrArg Value.string (by rw [ByteArray.extract_same]; rfl), Nat.le_refl _, hk1, fun m h1 h2 => absurd h2 (by omega), HS2, HW2, by rw [List.length_append, List.map_append]; exact HR2, HB2⟩
        case measure => simp [intOf]; omega
      · have hc' : ((s[k].toNat : Int) == 32) = false := beq_eq_false_iff_ne.2 hc
        have hcv : (convert 22 9 (.slice (some ⟨wr.heap.size, 0, none⟩) 1 1)).run Try.prog (wr.alloc (.cells #[.int .u8 (s[k].toNat : Int)] 5)) = .ok (.string ⟨#[s[k]]⟩) (wr.alloc (.cells #[.int .u8 (s[k].toNat : Int)] 5)) :=
          run_convert_bytes_back _ _ _ 5 ⟨wr.heap.size, 0, none⟩ 1 [s[k]] Try.underlying22 Try.underlying5 Try.underlying9 (fun i hi => by
            match i, hi with
            | 0, _ => simp [Addr.add])
        have hz1 : ¬ 9223372036854775807 < (s.extract j k).size + 1 := by rw [ByteArray.size_extract]; omega
        have HX := Hid.intro (extract_next hj hlt)
        have hc2 : ch s k ≠ 32 := fun h => hc (HC.out.symm.trans h)
        have HN2 : Hid (∀ m, j ≤ m → m < k + 1 → ch s m ≠ 32) := fun m h1 h2 => by
          rcases Nat.lt_or_eq_of_le (Nat.lt_succ_iff.1 h2) with h3 | rfl
          · exact HN.out m h1 h3
          · exact hc2
        go_wp2
        go_roundw
        case rel => exact ⟨k + 1, j, out, by omega, by go_num, congrArg Value.string HX.out, by omega, hjk, HN2, HS, HO, HR.out.alloc _, k_alloc HB.out _⟩
        case measure => simp [intOf]; omega
    · obtain rfl : k = s.size := by omega
      have HE : Hid (wend s j = s.size) := wend_of HN.out hj (Nat.le_refl _) (fun h => absurd h (Nat.lt_irrefl _))
      have HW2 : Hid (wordsFrom s 0 = out ++ [s.extract j s.size]) := by
        show _ = _
        rw [HO.out, wordsFrom_go hjk, HE.out, wordsFrom_end (by omega)]
      go_wp2_with (at_builtin; refine wpList_append_own _ rfl _ _ 105 rfl w.heap.size 9 i0 (.string ⟨#[]⟩) 1 16 Try.underlying105 hi hz0 hz1 hz2 rfl (by decide) _ _ _ rfl (HR.out.alloc _) ⟨wr.heap.size, 0, none⟩ 1 1 [.string (s.extract j s.size)] rfl rfl ?c1 ?c2 ?c3 ?c4 ?c5 ?_)
      case c1 =>
        intro i u hi
        match i, hi with
        | 0, hi => simp at hi; subst hi; simp [Addr.add]
      case c2 => intro u hu; simp at hu; subst hu; rfl
      case c3 => unfold maxLen; omega
      case c4 => omega
      case c5 => have := HB.out.size; simp; omega
      intro v' w2 hown' hgrow' _
      have HB2 := Hid.intro ((k_alloc HB.out (.cells #[.string (s.extract j s.size)] 9)).grown hgrow' (by have := HB.out.size; simp; omega) (fun b hb => (HR.out.lt b hb).1))
      have HR2 := Hid.intro hown'
      obtain ⟨g', cap', rfl⟩ := Joins.ownsRow_form hown' (by omega)
      clear hown' hgrow' HR HB
      go_wp2
      go_ret
      exact ⟨_, rfl, by rw [HW2.out, List.length_append, List.map_append]; exact HR2.out, HB2.out⟩

/-- a list of words that lies in memory, as the model's functions read it -/
theorem words_get {w : World} {B : Nat} {v : Value} {l : List ByteArray} (h : w.ownsRow B 9 1 v l.length (l.map Value.string)) {i : Nat} (hi : i < l.length) :
    ∃ g cap, v = .slice (some ⟨g, 0, none⟩) l.length cap ∧ l.length ≤ cap ∧ cap ≤ maxLen ∧ w.cell? ⟨g, i, none⟩ = some (.string l[i]) := by
  rcases h.2 with ⟨_, h0⟩ | ⟨g, cap, cur, hv, _, hg, h1, h2, h3, h4⟩
  · omega
  · refine ⟨g, cap, hv, h1, h2, ?_⟩
    rw [cellB hg]
    have : cur.toList[i]? = (l.map Value.string)[i]? := by rw [← h4, List.getElem?_take_of_lt (by omega)]
    rw [← Array.getElem?_toList, this]
    simp [hi]

set_option maxRecDepth 100000 in
set_option maxHeartbeats 1000000 in
theorem specTxtWords (s : ByteArray) (hs : s.size ≤ maxLen) (w : World) :
    Calls Try.prog 82 #[.string s] w fun e w' => ∃ v, e = .returned v ∧ w'.ownsRow w.heap.size 9 1 v (wordsW s).length ((wordsW s).map (fun x => Value.string x.1)) ∧ Below w.heap.size w w' := by
  by_cases hz : s.size = 0
  · have hw0 : wordsW s = [] := by
      rw [wordsW]
      split
      · rw [wordsFrom_end (by omega)]; rfl
      · rfl
    have hnil := toList_nil hz
    have HW := Hid.intro hw0
    clear hw0
    go_enter Try.func82, Try.ntmps82
    go_wp2
    all_goals
      go_ret
      exact ⟨_, rfl, by rw [HW.out]; exact World.ownsRow_made w #[] 0 (Nat.le_refl _) (Nat.zero_le _) rfl, k_alloc (Below.refl _ _) _⟩
  · have he : ¬ s.toList = [] := fun h => hz (size_nil h)
    have he' : s.toList.isEmpty = false := by simpa using he
    cases hok : txtOkB s with
    | false =>
      have hw0 : wordsW s = [] := by rw [wordsW, if_neg (by rw [hok]; simp)]
      go_enter Try.func82, Try.ntmps82
      have HW := Hid.intro hw0
      clear hw0
      go_wp2_with (go_at_call 54; refine (specTxtOk s w hs).mono ?_; rintro e w' ⟨rfl, rfl⟩; rw [hok])
      go_ret
      exact ⟨_, rfl, by rw [HW.out]; exact World.ownsRow_made w' #[] 0 (Nat.le_refl _) (Nat.zero_le _) rfl, k_alloc (Below.refl _ _) _⟩
    | true =>
      have hp : 0 < s.size := by omega
      go_enter Try.func82, Try.ntmps82
      go_wp2_with (first
        | (go_at_call 54; refine (specTxtOk s _ hs).mono ?_; rintro e w' ⟨rfl, rfl⟩; rw [hok])
        | (go_at_call 90; refine (specCut s hok hp _).mono ?_; rintro e w' ⟨v, rfl, hv, hb⟩))
      go_ret
      exact ⟨_, rfl, by rw [words_len hok, words_map hok]; exact hv, hb⟩
/-- words that lie in memory, read at a place -/
theorem wordsAt {w : World} {B : Nat} {v : Value} {l : List W30} (h : w.ownsRow B 9 1 v l.length (l.map (fun x => Value.string x.1))) {i : Nat} (hi : i < l.length) :
    ∃ g cap, v = .slice (some ⟨g, 0, none⟩) l.length cap ∧ l.length ≤ cap ∧ cap ≤ maxLen ∧ w.cell? ⟨g, i, none⟩ = some (.string l[i].1) := by
  have e : l.map (fun x => Value.string x.1) = (l.map (fun x => x.1)).map Value.string := by rw [List.map_map]; rfl
  have el : l.length = (l.map (fun x : W30 => x.1)).length := (List.length_map ..).symm
  rw [e, el] at h
  obtain ⟨g, cap, h1, h2, h3, h4⟩ := words_get h (i := i) (by rw [List.length_map]; exact hi)
  refine ⟨g, cap, by rw [el]; exact h1, by rw [el]; exact h2, h3, ?_⟩
  rw [h4]; simp
theorem words_form {w : World} {B : Nat} {v : Value} {l : List W30} (h : w.ownsRow B 9 1 v l.length (l.map (fun x => Value.string x.1))) : ∃ a cap, v = .slice a l.length cap := by
  rcases h.2 with ⟨hv, h0⟩ | ⟨g, cap, cur, hv, _⟩
  · exact ⟨none, 0, by rw [h0]; exact hv⟩
  · exact ⟨_, _, hv⟩
end Go.Proofs.Ytmdghonefdmihae
namespace Go.Proofs.Ytmdghonefdmihae
open Go.RowKit

/-- the model's l1Max -/
theorem l1Max_any (a b : Int) (w : World) : Calls Try.prog 51 #[.int .i64 a, .int .i64 b] w fun e w' => e = .returned (.int .i64 (max a b)) ∧ w' = w := by
  by_cases h : b < a
  · have e : max a b = a := by omega
    rw [e]
    go_enter Try.func51, Try.ntmps51
    go_wp2
    go_ret
    exact ⟨rfl, rfl⟩
  · have e : max a b = b := by omega
    rw [e]
    go_enter Try.func51, Try.ntmps51
    go_wp2
    go_ret
    exact ⟨rfl, rfl⟩
theorem leastOf_take {l : List W30} {k : Nat} (h : k < l.length) : leastOf (l.take (k + 1)) = max (leastOf (l.take k)) l[k].1.size := by
  rw [List.take_succ_eq_append_getElem h, leastOf_snoc]

set_option maxRecDepth 100000 in
set_option maxHeartbeats 1000000 in
theorem specTxtLeast (s : ByteArray) (hs : s.size ≤ maxLen) (w : World) :
    Calls Try.prog 72 #[.string s] w fun e w' => e = .returned (.int .i64 (leastOf (wordsW s))) ∧ Below w.heap.size w w' := by
  have hlen := wordsW_len s
  have HW := Hid.intro (specTxtWords s hs)
  generalize wordsW s = l at HW hlen ⊢
  go_enter Try.func72, Try.ntmps72
  go_wp2_with fail
  refine (HW.out _).mono ?_
  rintro e w1 ⟨v, rfl, hv, hb⟩
  have HV := Hid.intro hv
  have HB := Hid.intro hb
  obtain ⟨a, cap, rfl⟩ := words_form hv
  clear hv hb
  go_wp2_with fail
  go_loop [4, 5] (fun n i => ∃ k : Nat, k ≤ l.length ∧ i = .int .i64 k ∧ n = .int .i64 (leastOf (l.take k))) (fun _ i => l.length - (intOf i).toNat)
  case atStart => exact ⟨0, Nat.zero_le _, rfl, rfl⟩
  case round =>
    obtain ⟨k, hk, rfl, rfl⟩ := hrel
    by_cases hlt : k < l.length
    · obtain ⟨g, cap', e', h1, h2, hx⟩ := wordsAt HV.out hlt
      simp only [Value.slice.injEq, true_and] at e'
      obtain ⟨rfl, rfl⟩ := e'
      have HS := Hid.intro (leastOf_take hlt)
      have h3 := l[k].2
      have h4 := leastOf_le (l.take k)
      generalize l[k] = x at hx HS h3
      unfold maxLen at h2
      go_wp2_with (go_at_call 51; refine (l1Max_any _ _ _).mono ?_; rintro e w' ⟨rfl, rfl⟩)
      go_round
      case rel => exact ⟨k + 1, by omega, by go_num, by rw [HS.out]; go_num⟩
      case measure => simp [intOf]; omega
    · obtain rfl : k = l.length := by omega
      go_wp2
      go_ret
      exact ⟨rfl, HB.out⟩
end Go.Proofs.Ytmdghonefdmihae
namespace Go.Proofs.Ytmdghonefdmihae
open Go.RowKit

theorem specTxtWish (s : ByteArray) (hs : s.size ≤ maxLen) (w : World) : Calls Try.prog 70 #[.string s] w fun e w' => e = .returned (.int .i64 (wishOf s)) ∧ w' = w := by
  unfold wishOf
  have hm := hs
  unfold maxLen at hm
  cases hok : txtOkB s
  all_goals
    go_enter Try.func70, Try.ntmps70
    go_wp2_with (go_at_call 54; refine (specTxtOk _ _ hs).mono ?_; rintro e w' ⟨rfl, rfl⟩; rw [hok])
    go_ret
    exact ⟨rfl, rfl⟩
end Go.Proofs.Ytmdghonefdmihae
namespace Go.Proofs.Ytmdghonefdmihae
open Go.RowKit

set_option maxRecDepth 100000 in
set_option maxHeartbeats 1000000 in
theorem specl1Sum_any (v : Value) (l : List Int) (hl : l.length ≤ 1000) (hw : l.all wtB = true) (w : World) (h : IntsAt w v l) :
    Calls Try.prog 73 #[v] w fun e w' => e = .returned (.int .i64 l.sum) ∧ w' = w := by
  obtain ⟨a, cap, rfl, _⟩ := h.form
  have H := Hid.intro h
  have HW := Hid.intro (sumTo_bound hw)
  have HG := Hid.intro (fun i hi => wt_get (i := i) hw hi)
  clear h hw
  go_enter Try.func73, Try.ntmps73
  go_wp2_with fail
  go_loop [3, 4] (fun s i => ∃ k : Nat, k ≤ l.length ∧ i = .int .i64 k ∧ s = .int .i64 (sumTo l k)) (fun _ i => l.length - (intOf i).toNat)
  case atStart => exact ⟨0, Nat.zero_le _, rfl, by simp [sumTo]⟩
  case round =>
    obtain ⟨k, hk, rfl, rfl⟩ := hrel
    by_cases hlt : k < l.length
    · obtain ⟨b, off, cap', e', hc1, hc2, hbl, hx⟩ := H.out.get hlt
      simp only [Value.slice.injEq, true_and] at e'
      obtain ⟨rfl, rfl⟩ := e'
      have hb1 := HW.out k hk
      have hb2 := HG.out k hlt
      have HS := Hid.intro (sumTo_succ hlt)
      generalize l.getD k 0 = x at hx HS hb2
      generalize sumTo l k = s at HS hb1
      unfold maxLen at hc2
      go_wp2
      go_round
      case rel => exact ⟨k + 1, by omega, by go_num, by rw [HS.out]⟩
      case measure => simp [intOf]; omega
    · obtain rfl : k = l.length := by omega
      have HE := Hid.intro (sumTo_all l)
      go_wp2
      go_ret
      exact ⟨by rw [← HE.out]; rfl, rfl⟩
end Go.Proofs.Ytmdghonefdmihae
namespace Go.Proofs.Ytmdghonefdmihae
open Go.RowKit

/-- a list of Bools, in the block gb -/
def BoolsAt (w : World) (gb : Nat) (bl : List Bool) : Prop := ∃ bs, w.heap[gb]? = some (.cells bs 4) ∧ bs.size = bl.length ∧ ∀ i, i < bl.length → bs[i]? = some (.bool (bl.getD i false))
theorem BoolsAt.get {w : World} {gb : Nat} {bl : List Bool} (h : BoolsAt w gb bl) {i : Nat} (hi : i < bl.length) : w.cell? ⟨gb, i, none⟩ = some (.bool (bl.getD i false)) ∧ w.frozen? ⟨gb, i, none⟩ = false := by
  obtain ⟨bs, h1, h2, h3⟩ := h
  exact ⟨(cellB h1).trans (h3 i hi), freeB h1⟩
theorem BoolsAt.kept {w w' : World} {gb : Nat} {bl : List Bool} (h : BoolsAt w gb bl) (hb : w'.heap[gb]? = w.heap[gb]?) : BoolsAt w' gb bl := by
  obtain ⟨bs, h1, h2⟩ := h
  exact ⟨bs, hb.trans h1, h2⟩
theorem BoolsAt.set {w : World} {gb : Nat} {bl : List Bool} (h : BoolsAt w gb bl) (i : Nat) (hi : i < bl.length) (x : Bool) : BoolsAt (w.setCell ⟨gb, i, none⟩ (.bool x)) gb (bl.set i x) := by
  obtain ⟨bs, h1, h2, h3⟩ := h
  refine ⟨_, setB h1 _, by simpa using h2, fun j hj => ?_⟩
  rw [List.length_set] at hj
  by_cases e : i = j
  · subst e
    simp [List.getD, hj, show i < bs.size by omega]
  · rw [Array.getElem?_setIfInBounds_ne e, h3 j hj]
    simp [List.getD, e]

set_option maxRecDepth 100000 in
set_option maxHeartbeats 2000000 in
theorem l4Next_any (v : Value) (lr : List Int) (gb cap : Nat) (bl : List Bool) (hl : bl.length = lr.length) (w : World) (h : IntsAt w v lr) (hb : BoolsAt w gb bl) :
    Calls Try.prog 83 #[v, .slice (some ⟨gb, 0, none⟩) lr.length cap] w fun e w' => ∃ k : Int, e = .returned (.int .i64 k) ∧ NextP lr bl lr.length k ∧ ∃ q, w' = w.drewN q := by
  obtain ⟨a, ca, rfl, _⟩ := h.form
  have H := Hid.intro h
  have HBo := Hid.intro hb
  have HL := Hid.intro hl
  clear h hb hl
  go_enter Try.func83, Try.ntmps83
  go_wp2_with fail
  go_loopw [5, 6] (fun s5 s6 W => ∃ (m nd : Nat) (k : Int), m ≤ lr.length ∧ s6 = .int .i64 m ∧ s5 = .int .i64 k ∧ Hid (NextP lr bl m k) ∧ W = w.drewN nd) (fun _ s6 _ => lr.length - (intOf s6).toNat)
  case atStart => exact ⟨0, 0, -1, Nat.zero_le _, rfl, rfl, NextP.zero lr bl, rfl⟩
  case round =>
    obtain ⟨m, nd, k, hm, rfl, rfl, HN, rfl⟩ := hrel
    by_cases hlt : m < lr.length
    · obtain ⟨cb, fb⟩ := HBo.out.get (i := m) (by rw [HL.out]; exact hlt)
      obtain ⟨b, off, cap', e', hc1, hc2, hbl, hx⟩ := H.out.get hlt
      simp only [Value.slice.injEq, true_and] at e'
      obtain ⟨rfl, rfl⟩ := e'
      unfold maxLen at hc2
      cases hbm : bl.getD m false with
      | true =>
        rw [hbm] at cb
        have HN2 := Hid.intro (HN.out.got hbm)
        clear hbm
        go_wp2_with fail
        go_quiet (fail)
        go_wp2
        go_roundw
        case rel => exact ⟨m + 1, nd + nq, k, by omega, by go_num, rfl, HN2, rfl⟩
        case measure => simp [intOf]; omega
      | false =>
        rw [hbm] at cb
        rcases HN.out with ⟨hk, h2⟩ | ⟨j, hk, h2, h3, h4⟩
        · have HN2 := Hid.intro (NextP.first (lr := lr) h2 hbm)
          subst hk
          clear hbm h2
          go_wp2_with fail
          go_quiet (fail)
          go_wp2
          go_roundw
          case rel => exact ⟨m + 1, nd + nq, m, by omega, by go_num, rfl, HN2, rfl⟩
          case measure => simp [intOf]; omega
        · obtain ⟨b2, off2, cap2, e2, _, _, _, hy⟩ := H.out.get (i := j) (by omega)
          simp only [Value.slice.injEq, Option.some.injEq, Addr.mk.injEq, and_true, true_and] at e2
          obtain ⟨⟨q1, q2⟩, q3⟩ := e2
          subst q1
          subst q2
          subst hk
          have hj0 : (0 : Int) ≤ (j : Int) := by omega
          have hj1 : (j : Int) < (lr.length : Int) := by omega
          have hj2 : ¬ (j : Int) < 0 := by omega
          have hj3 : decide ((j : Int) < 0) = false := decide_eq_false hj2
          by_cases hgt : lr.getD j 0 < lr.getD m 0
          · have HN2 := Hid.intro (NextP.more h4 hbm hgt)
            generalize lr.getD j 0 = y at hy hgt
            generalize lr.getD m 0 = x at hx hgt
            clear hbm h4 h3 q3
            go_wp2_with fail
            go_quiet (fail)
            go_wp2
            go_roundw
            case rel => exact ⟨m + 1, nd + nq, m, by omega, by go_num, rfl, HN2, rfl⟩
            case measure => simp [intOf]; omega
          · have HN2 := Hid.intro (NextP.less h2 h3 h4 hgt)
            generalize lr.getD j 0 = y at hy hgt
            generalize lr.getD m 0 = x at hx hgt
            clear hbm h4 h3 q3
            go_wp2_with fail
            go_quiet (fail)
            go_wp2
            go_roundw
            case rel => exact ⟨m + 1, nd + nq, j, by omega, by go_num, rfl, HN2, rfl⟩
            case measure => simp [intOf]; omega
    · obtain rfl : m = lr.length := by omega
      go_wp2
      go_ret
      exact ⟨k, rfl, HN.out, nd, rfl⟩

/-- the rows of l4Share: the weights, what each gets, what is left over of each, who has got one of the rest -/
structure Q4 (w W : World) (v5 v8 v9 : Value) (gb : Nat) (u lo lr : List Int) (bl : List Bool) : Prop where
  o5 : W.ownsRow w.heap.size 3 1 v5 u.length (u.map (Value.int .i64))
  o8 : W.ownsRow w.heap.size 3 1 v8 lo.length (lo.map (Value.int .i64))
  o9 : W.ownsRow w.heap.size 3 1 v9 lr.length (lr.map (Value.int .i64))
  bo : BoolsAt W gb bl
  hb : w.heap.size ≤ gb
  n58 : v5.ownBlock ≠ v8.ownBlock
  n59 : v5.ownBlock ≠ v9.ownBlock
  n89 : v8.ownBlock ≠ v9.ownBlock
  nb5 : v5.ownBlock ≠ some gb
  nb8 : v8.ownBlock ≠ some gb
  nb9 : v9.ownBlock ≠ some gb
  below : Below w.heap.size w W
theorem BoolsAt.lt {w : World} {gb : Nat} {bl : List Bool} (h : BoolsAt w gb bl) : gb < w.heap.size := by
  obtain ⟨bs, h1, _⟩ := h
  exact (Array.getElem?_eq_some_iff.1 h1).1
theorem Q4.alloc {w W : World} {v5 v8 v9 : Value} {gb : Nat} {u lo lr : List Int} {bl : List Bool} (h : Q4 w W v5 v8 v9 gb u lo lr bl) (o : Obj) : Q4 w (W.alloc o) v5 v8 v9 gb u lo lr bl :=
  { h with o5 := h.o5.alloc o, o8 := h.o8.alloc o, o9 := h.o9.alloc o, bo := h.bo.kept (Below.heap_alloc _ _ _ h.bo.lt), below := h.below.alloc h.below.size o }
theorem Q4.drewN {w W : World} {v5 v8 v9 : Value} {gb : Nat} {u lo lr : List Int} {bl : List Bool} (h : Q4 w W v5 v8 v9 gb u lo lr bl) (n : Nat) : Q4 w (W.drewN n) v5 v8 v9 gb u lo lr bl :=
  { h with o5 := h.o5, o8 := h.o8, o9 := h.o9, bo := h.bo.kept rfl, below := k_drewN h.below n }
theorem own_some {w : World} {v : Value} {B n : Nat} {e : TypeId} {xs : List Value} (h : w.ownsRow B e 1 v n xs) (k : Nat) (hk : w.heap.size ≤ k) : v.ownBlock ≠ some k := fun e => by have := (h.lt k e).2; omega
theorem Q4.app8 {w W W' : World} {v5 v8 v9 v' : Value} {gb : Nat} {u lo lr : List Int} {bl : List Bool} (h : Q4 w W v5 v8 v9 gb u lo lr bl) {x : Int}
    (ho : W'.ownsRow w.heap.size 3 1 v' (lo.length + 1) (lo.map (Value.int .i64) ++ [.int .i64 x])) (hg : W.grownBy W' v8.ownBlock) (hat : v'.ownBlock = v8.ownBlock ∨ v'.ownBlock = some W.heap.size) : Q4 w W' v5 v' v9 gb u (lo ++ [x]) lr bl where
  o5 := h.o5.kept hg (.inr h.n58)
  o8 := by rw [List.length_append, List.map_append]; exact ho
  o9 := h.o9.kept hg (.inr (Ne.symm h.n89))
  bo := h.bo.kept (hg.block gb h.bo.lt (Ne.symm h.nb8))
  hb := h.hb
  n58 := by rcases hat with e | e <;> rw [e]; exact h.n58; exact own_some h.o5 _ (Nat.le_refl _)
  n59 := h.n59
  n89 := by rcases hat with e | e <;> rw [e]; exact h.n89; exact (own_some h.o9 _ (Nat.le_refl _)).symm
  nb5 := h.nb5
  nb8 := by rcases hat with e | e <;> rw [e]; exact h.nb8; exact fun e => by have := h.bo.lt; simp at e; omega
  nb9 := h.nb9
  below := h.below.grown hg h.below.size (fun b hb => (h.o8.lt b hb).1)
theorem Q4.app9 {w W W' : World} {v5 v8 v9 v' : Value} {gb : Nat} {u lo lr : List Int} {bl : List Bool} (h : Q4 w W v5 v8 v9 gb u lo lr bl) {x : Int}
    (ho : W'.ownsRow w.heap.size 3 1 v' (lr.length + 1) (lr.map (Value.int .i64) ++ [.int .i64 x])) (hg : W.grownBy W' v9.ownBlock) (hat : v'.ownBlock = v9.ownBlock ∨ v'.ownBlock = some W.heap.size) : Q4 w W' v5 v8 v' gb u lo (lr ++ [x]) bl where
  o5 := h.o5.kept hg (.inr h.n59)
  o8 := h.o8.kept hg (.inr h.n89)
  o9 := by rw [List.length_append, List.map_append]; exact ho
  bo := h.bo.kept (hg.block gb h.bo.lt (Ne.symm h.nb9))
  hb := h.hb
  n58 := h.n58
  n59 := by rcases hat with e | e <;> rw [e]; exact h.n59; exact own_some h.o5 _ (Nat.le_refl _)
  n89 := by rcases hat with e | e <;> rw [e]; exact h.n89; exact own_some h.o8 _ (Nat.le_refl _)
  nb5 := h.nb5
  nb8 := h.nb8
  nb9 := by rcases hat with e | e <;> rw [e]; exact h.nb9; exact fun e => by have := h.bo.lt; simp at e; omega
  below := h.below.grown hg h.below.size (fun b hb => (h.o9.lt b hb).1)
theorem grow_set (W : World) (p : Addr) (v : Value) : W.grownBy (W.setCell p v) (some p.block) :=
  ⟨rfl, rfl, rfl, by simp [World.setCell], fun k _ hne => Below.heap_setCell _ _ _ _ (fun e => hne (by rw [e]))⟩
theorem Q4.set8 {w W : World} {v5 v9 : Value} {g8 n c gb : Nat} {u lo lr : List Int} {bl : List Bool} (h : Q4 w W v5 (.slice (some ⟨g8, 0, none⟩) n c) v9 gb u lo lr bl) (i : Nat) (hi : i < lo.length) (x : Int) :
    Q4 w (W.setCell ⟨g8, i, none⟩ (.int .i64 x)) v5 (.slice (some ⟨g8, 0, none⟩) n c) v9 gb u (lo.set i x) lr bl where
  o5 := h.o5.kept (grow_set W ⟨g8, i, none⟩ (.int .i64 x)) (.inr h.n58)
  o8 := ((RowI.of_owns h.o8).set hi x).owns
  o9 := h.o9.kept (grow_set W ⟨g8, i, none⟩ (.int .i64 x)) (.inr (Ne.symm h.n89))
  bo := h.bo.kept ((grow_set W ⟨g8, i, none⟩ (.int .i64 x)).block gb h.bo.lt (Ne.symm h.nb8))
  hb := h.hb
  n58 := h.n58
  n59 := h.n59
  n89 := h.n89
  nb5 := h.nb5
  nb8 := h.nb8
  nb9 := h.nb9
  below := h.below.setCell (h.o8.lt g8 rfl).1 _
theorem Q4.setb {w W : World} {v5 v8 v9 : Value} {gb : Nat} {u lo lr : List Int} {bl : List Bool} (h : Q4 w W v5 v8 v9 gb u lo lr bl) (i : Nat) (hi : i < bl.length) (x : Bool) :
    Q4 w (W.setCell ⟨gb, i, none⟩ (.bool x)) v5 v8 v9 gb u lo lr (bl.set i x) where
  o5 := h.o5.kept (grow_set W ⟨gb, i, none⟩ (.bool x)) (.inr h.nb5)
  o8 := h.o8.kept (grow_set W ⟨gb, i, none⟩ (.bool x)) (.inr h.nb8)
  o9 := h.o9.kept (grow_set W ⟨gb, i, none⟩ (.bool x)) (.inr h.nb9)
  bo := h.bo.set i hi x
  hb := h.hb
  n58 := h.n58
  n59 := h.n59
  n89 := h.n89
  nb5 := h.nb5
  nb8 := h.nb8
  nb9 := h.nb9
  below := h.below.setCell h.hb _
def newBo (n : Nat) : Array Value := madeCells (Value.bool false).cells (n * 1)
theorem infoBo : (Try.prog.info? 4).map (fun i => (i.zero, i.size, i.bytes)) = some (some (Value.bool false), 1, 1) := by kernel_rfl
theorem makeBo (n : Nat) (hn : n ≤ 1048576) (u : World) : (Instr.makeSlice 108 (.int .i64 (n : Int)) (.int .i64 (n : Int))).run Try.prog u = .ok (.slice (some ⟨u.heap.size, 0, none⟩) n n) (u.alloc (.cells (newBo n) 4)) := by
  obtain ⟨i0, hi, hz0, hz1, hz2⟩ := info_parts infoBo
  have h := run_make (P := Try.prog) u 108 4 i0 _ Try.underlying108 hi hz0 .i64 .i64 (n : Int) (n : Int) (by omega) (Int.le_refl _) (by rw [hz2]; omega) (by omega)
  rw [hz1, Int.toNat_natCast] at h
  exact h
theorem bools_new (w : World) (n : Nat) : BoolsAt (w.alloc (.cells (newBo n) 4)) w.heap.size (List.replicate n false) := by
  refine ⟨newBo n, newestB _ _, by rw [newBo, size_madeCells]; simp, fun i hi => ?_⟩
  rw [List.length_replicate] at hi
  unfold newBo
  rw [Nat.mul_one, ← Array.getElem?_toList, show (Value.bool false).cells = #[Value.bool false] from rfl, toList_madeCells_one]
  simp [List.getD, hi]
theorem Q4.start {w W : World} {g5 n c5 : Nat} {u : List Int} (h5 : W.ownsRow w.heap.size 3 1 (.slice (some ⟨g5, 0, none⟩) n c5) u.length (u.map (Value.int .i64))) (hb : Below w.heap.size w W) (m : Nat) :
    Q4 w (((W.alloc (.cells #[] 3)).alloc (.cells #[] 3)).alloc (.cells (newBo m) 4)) (.slice (some ⟨g5, 0, none⟩) n c5) (.slice (some ⟨W.heap.size, 0, none⟩) 0 0) (.slice (some ⟨W.heap.size + 1, 0, none⟩) 0 0) (W.heap.size + 2) u [] [] (List.replicate m false) where
  o5 := ((h5.alloc _).alloc _).alloc _
  o8 := ((World.ownsRow_made (base := w.heap.size) (e := 3) (size := 1) W #[] 0 hb.size (Nat.zero_le _) rfl).alloc _).alloc _
  o9 := by
    have := World.ownsRow_made (base := w.heap.size) (e := 3) (size := 1) (W.alloc (.cells #[] 3)) #[] 0 (by have := hb.size; simp; omega) (Nat.zero_le _) rfl
    have e : (W.alloc (.cells #[] 3)).heap.size = W.heap.size + 1 := by simp
    rw [e] at this
    exact this.alloc _
  bo := by
    have := bools_new ((W.alloc (.cells #[] 3)).alloc (.cells #[] 3)) m
    have e : ((W.alloc (.cells #[] 3)).alloc (.cells #[] 3)).heap.size = W.heap.size + 2 := by simp
    rw [e] at this
    exact this
  hb := by have := hb.size; omega
  n58 := own_some h5 _ (Nat.le_refl _)
  n59 := own_some h5 (W.heap.size + 1) (by omega)
  n89 := fun e => by simp [Value.ownBlock] at e
  nb5 := own_some h5 (W.heap.size + 2) (by omega)
  nb8 := fun e => by simp [Value.ownBlock] at e
  nb9 := fun e => by simp [Value.ownBlock] at e
  below := k_alloc (k_alloc (k_alloc hb _) _) _
end Go.Proofs.Ytmdghonefdmihae
