/-
  PROVED HERE: what the program's TxtOk answers at every string: the Bool 'txtOkB', and the memory is left as it was. Also: what the model's TxtOk answers at every text; nothing that was in memory is turned. Also: what a cell that is ok is, as a Bool. Also: what a column of which something may be said is, as a Bool. Also: what a table that is ok is, as a Bool. Also: the part of a row of a table. Also: what the model's l1Max, l2Part and l2End answer; cells of a grid that a call owns lie in memory. Also: a region that draws its order, by a fact that each operation keeps, whatever was carried out ahead of it.
-/
import Derived.Test.YtggmjiddadjilalB1
import Derived.Test.YtggmjiddadjilalB6
import Derived.Test.YtggmjiddadjilalB4
import Derived.Test.YtggmjiddadjilalB5
import Derived.Test.YtggmjiddadjilalRows
import Derived.WalkKit
import Derived.ProofKit
import Derived.WalkLawsBesides
import Derived.WalkSpells
import Derived.Below
import Derived.Lib.Strings
import Derived.Lib.SmallJoins
import Derived.Deep.QuietTactic
import Derived.BigQuiet
import Derived.RegionTactic
import Derived.Orders
namespace Go.Proofs.Ytggmjiddadjilal
open Go.RowKit

/-- the i-th byte of a text, 0 past its end -/
def ch (s : ByteArray) (i : Nat) : Int := if h : i < s.size then (s[i].toNat : Int) else 0
def goodB (s : ByteArray) (i : Nat) : Bool := decide ((ch s i = 32 → i ≠ 0 ∧ i + 1 ≠ s.size ∧ ch s (i - 1) ≠ 32) ∧ (ch s i ≠ 32 → 97 ≤ ch s i ∧ ch s i ≤ 122))
def txtOkB (s : ByteArray) : Bool := decide (s.size ≤ 30) && (List.range s.size).all (goodB s)

theorem txtOkB_iff (s : ByteArray) : txtOkB s = true ↔ s.size ≤ 30 ∧ ∀ i, i < s.size → goodB s i = true := by
  simp [txtOkB, List.all_eq_true]
theorem txtOkB_long {s : ByteArray} (h : ¬ s.size ≤ 30) : txtOkB s = false := by simp [txtOkB, h]
theorem txtOkB_bad {s : ByteArray} (i : Nat) (hi : i < s.size) (h : goodB s i = false) : txtOkB s = false := by
  cases hb : txtOkB s with
  | false => rfl
  | true => rw [((txtOkB_iff s).1 hb).2 i hi] at h; cases h
theorem txtOkB_all {s : ByteArray} (h30 : s.size ≤ 30) (h : ∀ i, i < s.size → goodB s i = true) : txtOkB s = true := (txtOkB_iff s).2 ⟨h30, h⟩
theorem ch_at {s : ByteArray} {i : Nat} (h : i < s.size) : ch s i = (s[i].toNat : Int) := by simp [ch, h]
theorem next_all {s : ByteArray} {k : Nat} (h : ∀ j, j < k → goodB s j = true) (hk : goodB s k = true) : ∀ j, j < k + 1 → goodB s j = true := by
  intro j hj
  rcases Nat.lt_or_eq_of_le (Nat.lt_succ_iff.1 hj) with h1 | h1
  · exact h j h1
  · rw [h1]; exact hk
theorem toList_nil {s : ByteArray} (h : s.size = 0) : s.toList = [] := by
  rw [Lib.toList_data]; exact List.eq_nil_of_length_eq_zero (by simpa using h)
theorem size_nil {s : ByteArray} (h : s.toList = []) : s.size = 0 := by
  rw [Lib.toList_data] at h; have := congrArg List.length h; simpa using this
theorem ret_bool {a b : Bool} (h : a = b) : Ending.returned (.bool a) = .returned (.bool b) := by rw [h]

def bef (s : ByteArray) (k : Nat) : Int := if k = 0 then 32 else ch s (k - 1)
def goodI (s : ByteArray) (j : Nat) : Prop := (ch s j = 32 → bef s j ≠ 32) ∧ (ch s j ≠ 32 → 97 ≤ ch s j ∧ ch s j ≤ 122)
theorem goodI_next {s : ByteArray} {k : Nat} (h : ∀ j, j < k → goodI s j) (hk : goodI s k) : ∀ j, j < k + 1 → goodI s j := by
  intro j hj
  rcases Nat.lt_or_eq_of_le (Nat.lt_succ_iff.1 hj) with h1 | h1
  · exact h j h1
  · rw [h1]; exact hk
theorem txtOkB_badI {s : ByteArray} (k : Nat) (hk : k < s.size) (h : ¬ goodI s k) : txtOkB s = false := by
  refine txtOkB_bad k hk ?_
  unfold goodI bef at h
  unfold goodB
  rw [decide_eq_false_iff_not]
  intro ⟨h1, h2⟩
  apply h
  refine ⟨fun e => ?_, h2⟩
  obtain ⟨a, _, c⟩ := h1 e
  simp [a]; exact c
theorem txtOkB_endI {s : ByteArray} (h30 : s.size ≤ 30) (h : ∀ j, j < s.size → goodI s j) (hz : s.size ≠ 0) (hl : bef s s.size ≠ 32) : txtOkB s = true := by
  refine txtOkB_all h30 (fun i hi => ?_)
  have hg := h i hi
  unfold goodI bef at hg
  unfold bef at hl
  unfold goodB
  rw [decide_eq_true_iff]
  refine ⟨fun e => ?_, hg.2⟩
  have h1 := hg.1 e
  by_cases i0 : i = 0
  · simp [i0] at h1
  · simp [i0] at h1
    refine ⟨i0, fun he => ?_, h1⟩
    rw [if_neg hz, ← he] at hl
    simp at hl
    exact hl e
theorem txtOkB_emptyI {s : ByteArray} (hz : s.size = 0) : txtOkB s = true := txtOkB_all (by omega) (fun i hi => by omega)
theorem txtOkB_lastI {s : ByteArray} (hz : s.size ≠ 0) (hl : bef s s.size = 32) : txtOkB s = false := by
  refine txtOkB_bad (s.size - 1) (by omega) ?_
  unfold bef at hl
  rw [if_neg hz] at hl
  unfold goodB
  rw [decide_eq_false_iff_not]
  intro ⟨h1, _⟩
  exact (h1 hl).2.1 (by omega)
theorem bef_succ {s : ByteArray} {k : Nat} (h : k < s.size) : bef s (k + 1) = (s[k].toNat : Int) := by simp [bef, ch, h]

set_option maxRecDepth 100000 in
set_option maxHeartbeats 400000 in
theorem implTxtOk (s : ByteArray) (w : World) (hs : s.size ≤ maxLen) :
    Calls Try.prog 9 #[.string s] w fun e w' => e = .returned (.bool (txtOkB s)) ∧ w' = w := by
  unfold maxLen at hs
  by_cases h30 : s.size ≤ 30
  · go_enter Try.func9, Try.ntmps9
    go_wp2
    go_loop [3, 4, 10] (fun b _ i => ∃ (k : Nat) (B : Int), k ≤ s.size ∧ i = .int .i64 k ∧ b = .int .u8 B ∧ Hid (bef s k = B) ∧ Hid (∀ j, j < k → goodI s j)) (fun _ _ i => s.size - (intOf i).toNat)
    case atStart => exact ⟨0, 32, Nat.zero_le _, rfl, rfl, rfl, fun j hj => absurd hj (Nat.not_lt_zero _)⟩
    case round =>
      obtain ⟨k, B, hk, rfl, rfl, HBf, HA⟩ := hrel
      by_cases hlt : k < s.size
      · have hb : (s[k].toNat : Int) < 256 := by have := s[k].toNat_lt; omega
        have HC : Hid (ch s k = (s[k].toNat : Int)) := ch_at hlt
        have HS : Hid (bef s (k + 1) = (s[k].toNat : Int)) := bef_succ hlt
        by_cases hc : (s[k].toNat : Int) = 32
        · have hc' : ((s[k].toNat : Int) == 32) = true := beq_iff_eq.2 hc
          have hc2 : ((s[k].toNat : Int) != 32) = false := by rw [bne, hc']; rfl
          have HE : Hid (ch s k = 32) := HC.out.trans hc
          clear hc HC hb
          by_cases hB : B = 32
          · as_aux_lemma =>
              have hB' : (B == 32) = true := beq_iff_eq.2 hB
              have HF : Hid (txtOkB s = false) := txtOkB_badI k hlt (fun hg => hg.1 HE.out (HBf.out.trans hB))
              clear hB HE HBf HA HS
              go_wp2
              go_ret
              exact ⟨ret_bool HF.out.symm, rfl⟩
          · as_aux_lemma =>
              have hB' : (B == 32) = false := beq_eq_false_iff_ne.2 hB
              have HN : Hid (∀ j, j < k + 1 → goodI s j) := goodI_next HA.out ⟨fun _ => by rw [HBf.out]; exact hB, fun hne => absurd HE.out hne⟩
              clear hB HE HBf HA
              go_wp2
              go_round
              case rel => exact ⟨k + 1, _, by omega, by go_num, rfl, HS, HN⟩
              case measure => simp [intOf]; omega
        · have hc' : ((s[k].toNat : Int) == 32) = false := beq_eq_false_iff_ne.2 hc
          have hc2 : ((s[k].toNat : Int) != 32) = true := bne_iff_ne.2 hc
          by_cases hr : 97 ≤ (s[k].toNat : Int) ∧ (s[k].toNat : Int) ≤ 122
          · as_aux_lemma =>
              have HN : Hid (∀ j, j < k + 1 → goodI s j) := goodI_next HA.out ⟨fun he => absurd (HC.out.symm.trans he) hc, fun _ => by rw [HC.out]; exact hr⟩
              obtain ⟨hr1, hr2⟩ := hr
              clear HC HA hc HBf
              go_wp2
              go_round
              case rel => exact ⟨k + 1, _, by omega, by go_num, rfl, HS, HN⟩
              case measure => simp [intOf]; omega
          · have HF : Hid (txtOkB s = false) := txtOkB_badI k hlt (fun hg => hr (by have := hg.2 (by rw [HC.out]; exact hc); rw [HC.out] at this; exact this))
            clear HC HA hc HBf HS
            by_cases hr1 : 97 ≤ (s[k].toNat : Int)
            · as_aux_lemma =>
                have hr2 : ¬ (s[k].toNat : Int) ≤ 122 := by omega
                clear hr
                go_wp2
                go_ret
                exact ⟨ret_bool HF.out.symm, rfl⟩
            · as_aux_lemma =>
                clear hr
                go_wp2
                go_ret
                exact ⟨ret_bool HF.out.symm, rfl⟩
      · obtain rfl : k = s.size := by omega
        by_cases hz : s.size = 0
        · have he : s.toList = [] := toList_nil hz
          have HF : Hid (txtOkB s = true) := txtOkB_emptyI hz
          clear HBf HA
          go_wp2
          go_ret
          exact ⟨ret_bool HF.out.symm, rfl⟩
        · have he : ¬ s.toList = [] := fun h => hz (size_nil h)
          have he2 : s.toList.isEmpty = false := by simpa using he
          by_cases hB : B = 32
          · have hB' : (B != 32) = false := by simp [hB]
            have HF : Hid (txtOkB s = false) := txtOkB_lastI hz (HBf.out.trans hB)
            clear HBf HA hB hz he
            go_wp2
            go_ret
            exact ⟨ret_bool HF.out.symm, rfl⟩
          · have hB' : (B != 32) = true := bne_iff_ne.2 hB
            have HF : Hid (txtOkB s = true) := txtOkB_endI h30 HA.out hz (by rw [HBf.out]; exact hB)
            clear HBf HA hB hz he
            go_wp2
            go_ret
            exact ⟨ret_bool HF.out.symm, rfl⟩
  · go_enter Try.func9, Try.ntmps9
    go_wp2
    go_ret
    exact ⟨ret_bool (txtOkB_long h30).symm, rfl⟩
end Go.Proofs.Ytggmjiddadjilal
namespace Go.Proofs.Ytggmjiddadjilal
open Go.RowKit

set_option maxRecDepth 100000 in
set_option maxHeartbeats 400000 in
theorem specTxtOk (s : ByteArray) (w : World) (hs : s.size ≤ maxLen) :
    Calls Try.prog 10 #[.string s] w fun e w' => e = .returned (.bool (txtOkB s)) ∧ w' = w := by
  unfold maxLen at hs
  by_cases h30 : s.size ≤ 30
  · go_enter Try.func10, Try.ntmps10
    go_wp2
    go_loop [3] (fun i => ∃ k : Nat, k ≤ s.size ∧ i = .int .i64 k ∧ ∀ j, j < k → goodB s j = true) (fun i => s.size - (intOf i).toNat)
    case atStart => exact ⟨0, Nat.zero_le _, rfl, fun j hj => absurd hj (Nat.not_lt_zero _)⟩
    case round =>
      obtain ⟨k, hk, rfl, hall0⟩ := hrel
      have HA : Hid (∀ j, j < k → goodB s j = true) := hall0
      clear hall0
      by_cases hlt : k < s.size
      · have hb : (s[k].toNat : Int) < 256 := by have := s[k].toNat_lt; omega
        have HC : Hid (ch s k = (s[k].toNat : Int)) := ch_at hlt
        by_cases hc : (s[k].toNat : Int) = 32
        · have hc' : ((s[k].toNat : Int) == 32) = true := beq_iff_eq.2 hc
          have HE : Hid (ch s k = 32) := HC.out.trans hc
          clear hc HC hb
          by_cases h0 : k = 0
          · as_aux_lemma =>
              subst h0
              have hbad : goodB s 0 = false := by simp [goodB, HE.out]
              have HB : Hid (txtOkB s = false) := txtOkB_bad 0 hlt hbad
              clear hbad HE HA
              go_wp2
              go_ret
              exact ⟨ret_bool HB.out.symm, rfl⟩
          · have h0' : ((k : Int) == 0) = false := beq_eq_false_iff_ne.2 (by omega)
            by_cases h1 : k + 1 = s.size
            · as_aux_lemma =>
                have h1' : ((k : Int) == (s.size : Int) - 1) = true := beq_iff_eq.2 (by omega)
                have hbad : goodB s k = false := by simp [goodB, HE.out, h1]
                have HB : Hid (txtOkB s = false) := txtOkB_bad k hlt hbad
                clear hbad HE HA h1 h0
                go_wp2
                go_ret
                exact ⟨ret_bool HB.out.symm, rfl⟩
            · have h1' : ((k : Int) == (s.size : Int) - 1) = false := beq_eq_false_iff_ne.2 (by omega)
              have hl2 : k - 1 < s.size := by omega
              have HP : Hid (ch s (k - 1) = (s[k - 1].toNat : Int)) := ch_at hl2
              by_cases hp : (s[k - 1].toNat : Int) = 32
              · as_aux_lemma =>
                  have hp' : ((s[k - 1].toNat : Int) == 32) = true := beq_iff_eq.2 hp
                  have hbad : goodB s k = false := by simp [goodB, HE.out, HP.out, hp]
                  have HB : Hid (txtOkB s = false) := txtOkB_bad k hlt hbad
                  clear hbad HE HA HP hp
                  go_wp2
                  go_ret
                  exact ⟨ret_bool HB.out.symm, rfl⟩
              · as_aux_lemma =>
                  have hp' : ((s[k - 1].toNat : Int) == 32) = false := beq_eq_false_iff_ne.2 hp
                  have hc2 : ((s[k].toNat : Int) != 32) = false := by rw [bne, hc']; rfl
                  have hgood : goodB s k = true := by simp [goodB, HE.out, HP.out, hp, h0, h1]
                  have HN : Hid (∀ j, j < k + 1 → goodB s j = true) := next_all HA.out hgood
                  clear hgood HE HA HP hp
                  go_wp2
                  go_round
                  case rel => exact ⟨k + 1, by omega, by go_num, HN.out⟩
                  case measure => simp [intOf]; omega
        · have hc' : ((s[k].toNat : Int) == 32) = false := beq_eq_false_iff_ne.2 hc
          have hc2 : ((s[k].toNat : Int) != 32) = true := bne_iff_ne.2 hc
          by_cases hr : 97 ≤ (s[k].toNat : Int) ∧ (s[k].toNat : Int) ≤ 122
          · as_aux_lemma =>
              obtain ⟨hr1, hr2⟩ := hr
              have hgood : goodB s k = true := by simp [goodB, HC.out]; omega
              have HN : Hid (∀ j, j < k + 1 → goodB s j = true) := next_all HA.out hgood
              clear hgood HC HA hc
              go_wp2
              go_round
              case rel => exact ⟨k + 1, by omega, by go_num, HN.out⟩
              case measure => simp [intOf]; omega
          · have hbad : goodB s k = false := by simp [goodB, HC.out]; omega
            have HB : Hid (txtOkB s = false) := txtOkB_bad k hlt hbad
            clear hbad HC HA hc
            by_cases hr1 : 97 ≤ (s[k].toNat : Int)
            · as_aux_lemma =>
                have hr2 : ¬ (s[k].toNat : Int) ≤ 122 := by omega
                clear hr
                go_wp2
                go_ret
                exact ⟨ret_bool HB.out.symm, rfl⟩
            · as_aux_lemma =>
                clear hr
                go_wp2
                go_ret
                exact ⟨ret_bool HB.out.symm, rfl⟩
      · go_wp2
        go_ret
        exact ⟨ret_bool (txtOkB_all h30 (fun i hi => HA.out i (by omega))).symm, rfl⟩
  · go_enter Try.func10, Try.ntmps10
    go_wp2
    go_ret
    exact ⟨ret_bool (txtOkB_long h30).symm, rfl⟩
end Go.Proofs.Ytggmjiddadjilal
namespace Go.Proofs.Ytggmjiddadjilal
open Go.RowKit

def cellOkB (s : ByteArray) (c r a1 b1 a2 b2 a3 b3 a4 b4 : Int) : Bool := txtOkB s && (inB c 1 4 && (inB r 1 4 && (brdOkB a1 b1 && (brdOkB a2 b2 && (brdOkB a3 b3 && brdOkB a4 b4)))))
theorem Hid.mk {p : Prop} (h : p) : Hid p := h
end Go.Proofs.Ytggmjiddadjilal
namespace Go.Proofs.Ytggmjiddadjilal
open Go.RowKit

def colB (k n : Int) : Bool := decide (k = 0 ∧ n = 0 ∨ k = 1 ∧ 0 ≤ n ∧ n ≤ 60 ∨ k = 2 ∧ 1 ≤ n ∧ n ≤ 100)
theorem colB_0 (n : Int) : colB 0 n = inB n 0 0 := by rw [Bool.eq_iff_iff]; simp [colB, inB]; omega
theorem colB_0' (n : Int) : colB 0 n = (n == 0) := by rw [Bool.eq_iff_iff]; simp [colB]
theorem colB_1 (n : Int) : colB 1 n = inB n 0 60 := by rw [Bool.eq_iff_iff]; simp [colB, inB]
theorem colB_2 (n : Int) : colB 2 n = inB n 1 100 := by rw [Bool.eq_iff_iff]; simp [colB, inB]
theorem colB_no {k : Int} (n : Int) (h0 : k ≠ 0) (h1 : k ≠ 1) (h2 : k ≠ 2) : colB k n = false := by simp [colB]; omega
end Go.Proofs.Ytggmjiddadjilal
namespace Go.Proofs.Ytggmjiddadjilal
open Go.RowKit

def cB (x : C) : Bool := cellOkB x.s x.c x.r x.a1 x.b1 x.a2 x.b2 x.a3 x.b3 x.a4 x.b4
def rowB (r : R) : Bool := decide (r.cells.length ≤ 5) && r.cells.all cB
def colsB (ps : List (Int × Int)) : Bool := decide (ps.length ≤ 8) && ps.all (fun p => colB p.1 p.2)
def partsB (n : Nat) (hd ft : Int) : Bool := inB hd 0 n && inB ft 0 (n - hd)
theorem all_true {α : Type} (d : α) (p : α → Bool) (l : List α) (h : ∀ j, j < l.length → p (l.getD j d) = true) : l.all p = true := by
  rw [List.all_eq_true]
  intro x hx
  obtain ⟨j, hj, rfl⟩ := List.getElem_of_mem hx
  have e : l.getD j d = l[j] := by simp [List.getD, hj]
  rw [← e]; exact h j hj
theorem all_false {α : Type} (d : α) (p : α → Bool) (l : List α) (k : Nat) (hk : k < l.length) (h : p (l.getD k d) = false) : l.all p = false := by
  have e : l.getD k d = l[k] := by simp [List.getD, hk]
  rw [e] at h
  cases hb : l.all p with
  | false => rfl
  | true => rw [List.all_eq_true.1 hb _ (List.getElem_mem hk)] at h; cases h
theorem next_true {α : Type} {d : α} {p : α → Bool} {l : List α} {k : Nat} (h : ∀ j, j < k → p (l.getD j d) = true) (hk : p (l.getD k d) = true) : ∀ j, j < k + 1 → p (l.getD j d) = true := by
  intro j hj
  rcases Nat.lt_or_eq_of_le (Nat.lt_succ_iff.1 hj) with h1 | h1
  · exact h j h1
  · rw [h1]; exact hk
def tblB (t : T) : Bool := inB t.rows.length 1 8 && (partsB t.rows.length t.head t.foot && (inB t.gap 0 3 && (colsB t.cols && t.rows.all rowB)))
theorem newestO (w : World) (q : Obj) : (w.alloc q).heap[w.heap.size]? = some q := by show (w.heap.push q)[w.heap.size]? = _; simp
theorem fiveO {w : World} {g : Nat} {x0 x1 x2 x3 x4 : Value} {t : TypeId} (h : w.heap[g]? = some (.cells #[x0, x1, x2, x3, x4] t)) :
    w.cell? ⟨g, 0, none⟩ = some x0 ∧ w.cell? ⟨g, 1, none⟩ = some x1 ∧ w.cell? ⟨g, 2, none⟩ = some x2 ∧ w.cell? ⟨g, 3, none⟩ = some x3 ∧ w.cell? ⟨g, 4, none⟩ = some x4 :=
  ⟨Joins.cell_of_block h 0, Joins.cell_of_block h 1, Joins.cell_of_block h 2, Joins.cell_of_block h 3, Joins.cell_of_block h 4⟩
end Go.Proofs.Ytggmjiddadjilal
namespace Go.Proofs.Ytggmjiddadjilal
open Go.RowKit

def partOf (t : T) (q : Int) : Int := if tblB t = true ∧ inB q 0 (t.rows.length - 1) = true then (if q < t.head then 0 else if t.rows.length - t.foot ≤ q then 2 else 1) else -1
theorem retIP {a b : Int} (h : a = b) : Ending.returned (.int .i64 a) = .returned (.int .i64 b) := by rw [h]
theorem tblB_bounds {t : T} (h : tblB t = true) : (1 ≤ t.rows.length ∧ t.rows.length ≤ 8) ∧ (0 ≤ t.head ∧ t.head ≤ t.rows.length) ∧ 0 ≤ t.foot ∧ t.foot ≤ t.rows.length := by
  simp only [tblB, partsB, Bool.and_eq_true] at h
  have h1 : (1 : Int) ≤ t.rows.length ∧ (t.rows.length : Int) ≤ 8 := of_decide_eq_true h.1
  have h2 : 0 ≤ t.head ∧ t.head ≤ t.rows.length := of_decide_eq_true h.2.1.1
  have h3 : 0 ≤ t.foot ∧ t.foot ≤ t.rows.length - t.head := of_decide_eq_true h.2.1.2
  omega
end Go.Proofs.Ytggmjiddadjilal
namespace Go.Proofs.Ytggmjiddadjilal
open Go.RowKit

theorem l1Max_any (a b : Int) (w : World) : Calls Try.prog 59 #[.int .i64 a, .int .i64 b] w fun e w' => e = .returned (.int .i64 (max a b)) ∧ w' = w := by
  by_cases h : b < a
  · have HE : Hid (max a b = a) := Hid.intro (by omega)
    go_enter Try.func59, Try.ntmps59
    go_wp2
    go_ret
    exact ⟨retI64 HE.out.symm, rfl⟩
  · have HE : Hid (max a b = b) := Hid.intro (by omega)
    go_enter Try.func59, Try.ntmps59
    go_wp2
    go_ret
    exact ⟨retI64 HE.out.symm, rfl⟩
set_option maxRecDepth 100000 in
set_option maxHeartbeats 1000000 in
theorem l2End_any (ac ar : Option Addr) (cc cr : Nat) (t : T) (hb : t.rows.length ≤ 8 ∧ 0 ≤ t.foot ∧ t.foot ≤ t.rows.length) (r : Nat) (w : World) :
    Calls Try.prog 60 #[.agg #[.slice ac t.cols.length cc, .int .i64 t.head, .int .i64 t.foot, .slice ar t.rows.length cr, .int .i64 t.gap], .int .i64 (r : Int)] w fun e w' => e = .returned (.int .i64 (endOf t r)) ∧ Below w.heap.size w w' := by
  obtain ⟨h1, h2, h3⟩ := hb
  by_cases c1 : (r : Int) < t.head
  · have HE : Hid (endOf t r = t.head) := Hid.intro (by unfold endOf; rw [if_pos c1])
    go_enter Try.func60, Try.ntmps60
    go_wp2
    go_ret
    exact ⟨retI64 HE.out.symm, by repeat (first | exact Below.refl _ _ | apply k_alloc)⟩
  · by_cases c2 : (t.rows.length : Int) - t.foot ≤ r
    · have HE : Hid (endOf t r = t.rows.length) := Hid.intro (by unfold endOf; rw [if_neg c1, if_pos c2])
      go_enter Try.func60, Try.ntmps60
      go_wp2
      go_ret
      exact ⟨retI64 HE.out.symm, by repeat (first | exact Below.refl _ _ | apply k_alloc)⟩
    · have HE : Hid (endOf t r = t.rows.length - t.foot) := Hid.intro (by unfold endOf; rw [if_neg c1, if_neg c2])
      go_enter Try.func60, Try.ntmps60
      go_wp2
      go_ret
      exact ⟨retI64 HE.out.symm, by repeat (first | exact Below.refl _ _ | apply k_alloc)⟩
/-- a cell's five cells -/
def gcVs (x : GC) : List Value := [.int .i64 x.row, .int .i64 x.col, .int .i64 x.rows, .int .i64 x.cols, .int .i64 x.ins]
def OwnG (w : World) (base : Nat) (v : Value) (gs : List GC) : Prop := w.ownsRow base 54 5 v gs.length (gs.flatMap gcVs)
theorem OwnG.at {w : World} {base : Nat} {v : Value} {gs : List GC} (h : OwnG w base v gs) (hs : ∀ x ∈ gs, GOk x) : GsAt w base v gs := by
  rcases h.2 with ⟨rfl, hn⟩ | ⟨g, cap, cur, rfl, hg, hc, h1, h2, _⟩
  · exact ⟨none, 0, by rw [hn], by omega, by unfold maxLen; omega, fun i hi => by omega⟩
  · refine ⟨_, cap, rfl, h1, h2, fun i hi => ⟨g, 0, rfl, (Array.getElem?_eq_some_iff.1 hc).1, hg, ?_, ?_⟩⟩
    · have hx : ∀ j, j < 5 → w.cell? ⟨g, i * 5 + j, none⟩ = (gcVs gs[i])[j]? := fun j hj => by
        have e := flat_get gcVs 5 (fun _ => rfl) gs i hi j hj
        rw [row_cell h (u := (gcVs gs[i])[j]'(by show j < 5; exact hj)) (by rw [e]; simp)]
        simp
      rw [getD_get dG hi, Nat.zero_add]
      exact ⟨hx 0 (by omega), hx 1 (by omega), hx 2 (by omega), hx 3 (by omega), hx 4 (by omega)⟩
    · rw [getD_get dG hi]
      exact hs _ (List.getElem_mem hi)
theorem Stands.gok {n : Nat} {a : GC} (hn : n ≤ 8) (h : Stands n a) : GOk a := by
  unfold Stands at h
  unfold GOk I64
  omega
theorem Stands.sm {n : Nat} {a : GC} (hn : n ≤ 8) (h : Stands n a) : Sm a := by
  unfold Stands at h
  unfold Sm
  omega
theorem infoGC : (Try.prog.info? 54).map (fun i => (i.zero, i.size, i.bytes)) = some (some (Value.agg #[.int .i64 0, .int .i64 0, .int .i64 0, .int .i64 0, .int .i64 0]), 5, 40) := by kernel_rfl
end Go.Proofs.Ytggmjiddadjilal
namespace Go.Proofs.Ytggmjiddadjilal
open Go.RowKit

def upd (L : Nat → Bool) (i : Nat) : Nat → Bool := fun j => if j = i then true else L j
theorem upd_ne {L : Nat → Bool} {i j : Nat} (h : (j == i) = false) : upd L i j = L j := by
  unfold upd
  rw [if_neg (fun e => by rw [e] at h; simp at h)]
theorem un {L : Nat → Bool} {i j : Nat} {b : Bool} (h : upd L i j = b) (e : (j == i) = false := by rfl) : L j = b := by rwa [upd_ne e] at h
theorem upd_self {L : Nat → Bool} {i : Nat} : upd L i i = true := by simp [upd]
/-- each operation hangs on operations ahead of it alone -/
def aheadB (ops : Array Oper) : Bool := (List.range ops.size).all fun i => ((ops[i]?).map fun o => o.after.all fun e => !Region.binds .any e || decide (e.on < i)).getD true
theorem ahead_all {ops : Array Oper} (h : aheadB ops = true) {listed : Array Bool} (hs : listed.size = ops.size) (hr : Region.ready .any ops listed = []) : ∀ i, i < ops.size → listed.getD i false = true := by
  intro i
  induction i using Nat.strongRecOn with
  | ind i ih =>
    intro hi
    cases hl : listed.getD i false with
    | true => rfl
    | false =>
      exfalso
      have ho : ops[i]? = some ops[i] := Array.getElem?_eq_getElem hi
      have h1 := List.all_eq_true.1 h i (List.mem_range.2 hi)
      rw [ho] at h1
      simp only [Option.map_some, Option.getD_some] at h1
      have hm : i ∈ Region.ready .any ops listed := by
        unfold Region.ready
        rw [List.mem_filter]
        refine ⟨List.mem_range.2 hi, ?_⟩
        have h2 : listed.getD i true = false := by
          rw [Array.getD_eq_getD_getElem?, Array.getElem?_eq_getElem (by omega)] at hl ⊢
          exact hl
        rw [h2, ho]
        simp only [Bool.not_false, Bool.true_and, Option.map_some, Option.getD_some]
        rw [Array.all_eq_true_iff_forall_mem]
        intro e he
        have h3 := Array.all_eq_true_iff_forall_mem.1 h1 e he
        cases hbn : Region.binds .any e with
        | false => simp
        | true =>
          rw [hbn] at h3
          have h4 : e.on < i := by simpa using h3
          rw [ih e.on h4 (by omega)]
          simp
      rw [hr] at hm
      cases hm
theorem listed_set {listed : Array Bool} {i : Nat} (hi : i < listed.size) : (fun j => (listed.setIfInBounds i true).getD j false) = upd (fun j => listed.getD j false) i := by
  funext j
  unfold upd
  rw [Array.getD_eq_getD_getElem?]
  by_cases h : j = i
  · subst h; simp [hi]
  · rw [if_neg h, Array.getElem?_setIfInBounds_ne (Ne.symm h)]
    exact (Array.getD_eq_getD_getElem? ..).symm
theorem count_set {l : List Bool} {i : Nat} (h : l[i]? = some false) : (l.set i true).count false + 1 = l.count false := by
  induction l generalizing i with
  | nil => simp at h
  | cons a t ih =>
    cases i with
    | zero => simp at h; subst h; simp
    | succ i =>
      simp at h
      have := ih h
      rw [List.set_cons_succ, List.count_cons, List.count_cons]
      omega

section
variable {P : Program} {ops : Array Oper} {Q : Exit → Act → World → Prop} (J : (Nat → Bool) → Act → World → Prop)
theorem wpAny_inv (hord : aheadB ops = true)
    (hs : ∀ (L : Nat → Bool) (a : Act) (w : World) (i : Nat) (o : Oper), J L a w → ops[i]? = some o → L i = false → (∀ e ∈ o.after, Region.binds .any e = true → L e.on = true) →
      ∀ K : Act → World → Prop, (∀ a' w', J (upd L i) a' w' → K a' w') → if Region.wanted o (yielded ops a.tmps) = true then o.wp P a w K Q else K (a.put o.dst undef) w)
    (hd : ∀ (L : Nat → Bool) (a : Act) (w : World), J L a w → (∀ i, i < ops.size → L i = true) → Q .normal a w) :
    ∀ (fuel : Nat) (listed : Array Bool) (a : Act) (w : World), listed.size = ops.size → listed.toList.count false ≤ fuel → J (fun j => listed.getD j false) a w → wpAny P .any ops Q fuel listed a w := by
  intro fuel
  induction fuel with
  | zero =>
    intro listed a w hsz hc hJ
    have hall : ∀ i, i < ops.size → listed.getD i false = true := by
      intro i hi
      have h0 : listed.toList.count false = 0 := by omega
      have hi' : i < listed.size := by omega
      have := List.count_eq_zero.1 h0
      have hm : listed[i] ∈ listed.toList := by simp
      rw [Array.getD_eq_getD_getElem?, Array.getElem?_eq_getElem hi', Option.getD_some]
      cases hv : listed[i] with
      | true => rfl
      | false => rw [hv] at hm; exact absurd hm this
    refine ⟨?_, hd _ _ _ hJ hall⟩
    unfold Region.ready
    rw [List.filter_eq_nil_iff]
    intro i hi
    have hi2 := List.mem_range.1 hi
    have := hall i hi2
    have h3 : listed.getD i true = true := by
      rw [Array.getD_eq_getD_getElem?, Array.getElem?_eq_getElem (by omega)] at this ⊢
      exact this
    rw [h3]; simp
  | succ fuel ih =>
    intro listed a w hsz hc hJ
    refine ⟨fun hr => hd _ _ _ hJ (ahead_all hord hsz hr), fun i hi => ?_⟩
    unfold Region.ready at hi
    rw [List.mem_filter] at hi
    obtain ⟨h1, h2⟩ := hi
    have hlt := List.mem_range.1 h1
    have ho : ops[i]? = some ops[i] := Array.getElem?_eq_getElem hlt
    rw [ho] at h2
    simp only [Option.map_some, Option.getD_some, Bool.and_eq_true] at h2
    obtain ⟨h3, h4⟩ := h2
    have hil : i < listed.size := by omega
    have hv : listed[i] = false := by
      rw [Array.getD_eq_getD_getElem?, Array.getElem?_eq_getElem hil] at h3
      simpa using h3
    have hfi : listed.getD i false = false := by rw [Array.getD_eq_getD_getElem?, Array.getElem?_eq_getElem hil, hv]; rfl
    have hstep := hs _ a w i ops[i] hJ ho hfi (fun e he hb => by
      have := Array.all_eq_true_iff_forall_mem.1 h4 e he
      rw [hb] at this
      simpa using this) (wpAny P .any ops Q fuel (listed.setIfInBounds i true)) (fun a' w' hJ' => ih _ a' w' (by simpa using hsz) (by
        have := count_set (l := listed.toList) (i := i) (by rw [Array.getElem?_toList, Array.getElem?_eq_getElem hil, hv])
        rw [Array.toList_setIfInBounds]
        omega) (by rw [listed_set hil]; exact hJ'))
    unfold wpOp
    rw [ho]
    dsimp only
    split
    · rename_i hw; rw [if_pos hw] at hstep; exact .inl hstep
    · rename_i hw; rw [if_neg hw] at hstep; exact hstep
theorem wp_region_inv {id : Nat} {a : Act} {w : World} (hm : P.follows .mixedOrders = true) (hord : aheadB ops = true)
    (hs : ∀ (L : Nat → Bool) (a : Act) (w : World) (i : Nat) (o : Oper), J L a w → ops[i]? = some o → L i = false → (∀ e ∈ o.after, Region.binds .any e = true → L e.on = true) →
      ∀ K : Act → World → Prop, (∀ a' w', J (upd L i) a' w' → K a' w') → if Region.wanted o (yielded ops a.tmps) = true then o.wp P a w K Q else K (a.put o.dst undef) w)
    (hd : ∀ (L : Nat → Bool) (a : Act) (w : World), J L a w → (∀ i, i < ops.size → L i = true) → Q .normal a w)
    (h0 : J (fun _ => false) a w.drew) : (Code.region id ops true).wp P Q a w := by
  refine wp_region_any hm (wpAny_inv J hord hs hd _ _ _ _ (by simp) (by simp) ?_)
  have e : (fun j => (Array.replicate ops.size false).getD j false) = fun _ => false := by
    funext j
    rw [Array.getD_eq_getD_getElem?]
    by_cases h : j < ops.size <;> simp [h]
  rw [e]
  exact h0
end
end Go.Proofs.Ytggmjiddadjilal
