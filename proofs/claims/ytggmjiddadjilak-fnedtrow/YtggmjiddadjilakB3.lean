/-
  PROVED HERE: an owned table whose blocks lie between two bounds. Also: numbers between two others, as a Bool. Also: what the program's within and the model's l1In answer at every argument: the Bool 'inB'; nothing that was in memory is turned. Also: what a border that is ok is, as a Bool. Also: what the program's TxtOk answers at every string: the Bool 'txtOkB', and the memory is left as it was. Also: what the model's TxtOk answers at every text; nothing that was in memory is turned. Also: what a cell that is ok is, as a Bool. Also: what a column of which something may be said is, as a Bool. Also: what a table that is ok is, as a Bool.
-/
import Derived.Test.YtggmjiddadjilakB2
import Derived.Test.YtggmjiddadjilakB1
import Derived.Test.YtggmjiddadjilakRows
import Derived.WalkKit
import Derived.ProofKit
import Derived.WalkLawsBesides
import Derived.WalkSpells
import Derived.Below
import Derived.Lib.Strings
import Derived.Lib.SmallJoins
namespace Go.Proofs.Ytggmjiddadjilak
open Go.RowKit

theorem map_snd_get {ur : List (Value × R)} {i : Nat} {p : Value × R} (h : ur[i]? = some p) : (ur.map (·.2)).getD i dR = p.2 := by simp [List.getD, h]
theorem own_get {w : World} {base : Nat} {v : Value} {ur : List (Value × R)} (h : OwnR w base v ur) {i : Nat} {p : Value × R} (hi : ur[i]? = some p) : ∃ g cap cur, v = .slice (some ⟨g, 0, none⟩) ur.length cap ∧ ur.length ≤ cap ∧ cap ≤ maxLen ∧ g < w.heap.size ∧ base ≤ g ∧ w.heap[g]? = some (.cells cur 37) ∧ cur.size = cap * 2 ∧ cur[i * 2]? = some p.1 ∧ cur[i * 2 + 1]? = some (.bool p.2.whole) := by
  have hil : i < ur.length := (List.getElem?_eq_some_iff.1 hi).1
  have ep : ur[i] = p := by rw [List.getElem?_eq_getElem hil] at hi; exact Option.some.inj hi
  rcases h.own.2 with ⟨_, e⟩ | ⟨g, cap, cur, e, hg, hc, a1, a2, a3, a4⟩
  · omega
  · have hold : ∀ m, m < 2 → cur[i * 2 + m]? = (rowVs p)[m]? := fun m hm => by
      have e := flat_get rowVs 2 (fun _ => rfl) ur i hil m hm
      rw [← a4, List.getElem?_take_of_lt (by omega), Array.getElem?_toList, ep] at e
      exact e
    exact ⟨g, cap, cur, e, a1, a2, (Array.getElem?_eq_some_iff.1 hc).1, hg, hc, a3, hold 0 (by omega), hold 1 (by omega)⟩

/-- what is no row and no cell stays -/
def Kty (w w' : World) : Prop := ∀ (j : Nat) (cur : Array Value) (ty : TypeId), ty ≠ 37 → ty ≠ 58 → w.heap[j]? = some (.cells cur ty) → w'.heap[j]? = some (.cells cur ty)
theorem Kty.refl (w : World) : Kty w w := fun _ _ _ _ _ h => h
theorem Kty.trans {a b c : World} (h : Kty a b) (k : Kty b c) : Kty a c := fun j cur ty h1 h2 h3 => k j cur ty h1 h2 (h j cur ty h1 h2 h3)
theorem Kty.cells {w w' : World} {B m : Nat} {u : Value} {xs : List Value} (h : w.ownsRow B 58 11 u m xs) (k : w.grownBy w' u.ownBlock) : Kty w w' := fun j cur ty _ h2 h3 => by
  refine (k.block j (Array.getElem?_eq_some_iff.1 h3).1 (fun e => ?_)).trans h3
  rcases row_ne_block h h3 (fun e => h2 e.symm) with h4 | h4
  · rw [h4] at e; cases e
  · exact h4 e.symm
theorem Kty.set {w : World} {g o : Nat} {arr : Array Value} (h : w.heap[g]? = some (.cells arr 37)) (v : Value) : Kty w (w.setCell ⟨g, o, none⟩ v) := fun j cur ty h1 _ h3 => by
  refine (Below.heap_setCell _ _ _ _ (fun e => ?_)).trans h3
  subst e
  rw [h3] at h
  simp at h
  exact h1 h.2
/-- a table of one's own whose blocks lie ahead of D -/
def OwnD (w : World) (B D : Nat) (vc vr : Value) (cols : List (Int × Int)) (ur : List (Value × R)) : Prop := OwnCol w B vc cols ∧ OwnR w B vr ur ∧ (∀ b, vc.ownBlock = some b → b < D) ∧ (∀ b, vr.ownBlock = some b → b < D) ∧ ∀ p ∈ ur, ∀ b, p.1.ownBlock = some b → b < D
theorem OwnD.of {w : World} {B : Nat} {vc vr : Value} {cols : List (Int × Int)} {ur : List (Value × R)} (h1 : OwnCol w B vc cols) (h2 : OwnR w B vr ur) : OwnD w B w.heap.size vc vr cols ur :=
  ⟨h1, h2, fun _ e => (row_lt h1 e).2, fun _ e => (row_lt h2.own e).2, fun p hp _ e => (row_lt (h2.cells p hp) e).2⟩
theorem OwnD.out {w w' : World} {B D B' D' : Nat} {vc vr : Value} {cols : List (Int × Int)} {ur : List (Value × R)} (h : OwnD w B D vc vr cols ur) (k : Out B' D' w w') (hd : D ≤ B' ∨ D' ≤ B) : OwnD w' B D vc vr cols ur := by
  obtain ⟨h1, h2, h3, h4, h5⟩ := h
  have key : ∀ {e : TypeId} {sz : Nat} {v : Value} {m : Nat} {xs : List Value}, w.ownsRow B e sz v m xs → (∀ b, v.ownBlock = some b → b < D) → w'.ownsRow B e sz v m xs := fun h hv => by
    refine ⟨h.1, h.2.elim Or.inl (fun ⟨g, cap, cur, e, hg, hc, q⟩ => Or.inr ⟨g, cap, cur, e, hg, ?_, q⟩)⟩
    have hgD : g < D := hv g (by rw [e]; rfl)
    refine Eq.trans ?_ hc
    rcases hd with hd | hd
    · exact k.below.block g (by omega)
    · exact k.block g (by omega) (Array.getElem?_eq_some_iff.1 hc).1
  exact ⟨key h1 h3, ⟨key h2.own h4, fun p hp => key (h2.cells p hp) (h5 p hp), h2.apart⟩, h3, h4, h5⟩
theorem OwnD.kept {w w' : World} {B D : Nat} {vc vr : Value} {cols : List (Int × Int)} {ur : List (Value × R)} (h : OwnD w B D vc vr cols ur) (k : Below w.heap.size w w') : OwnD w' B D vc vr cols ur := by
  have key : ∀ {e : TypeId} {sz : Nat} {v : Value} {m : Nat} {xs : List Value}, w.ownsRow B e sz v m xs → w'.ownsRow B e sz v m xs := fun h =>
    ⟨h.1, h.2.elim Or.inl (fun ⟨g, cap, cur, e, hg, hc, q⟩ => Or.inr ⟨g, cap, cur, e, hg, (k.block g (Array.getElem?_eq_some_iff.1 hc).1).trans hc, q⟩)⟩
  exact ⟨key h.1, ⟨key h.2.1.own, fun p hp => key (h.2.1.cells p hp), h.2.1.apart⟩, h.2.2⟩
/-- the number behind a table's last mark -/
def kEnd (cols : List (Int × Int)) (ur : List (Value × R)) : Nat := kAt (ur.map (·.2)) (1 + 2 * cols.length) ur.length
theorem mkU_fst (ur : List (Value × R)) (k i : Nat) : ∀ p ∈ mkU ur k i, ∃ q ∈ ur, q.1 = p.1 := by
  intro p hp
  obtain ⟨j, hj, rfl⟩ := List.mem_iff_getElem.1 hp
  have hj' : j < ur.length := by rw [mkU_len] at hj; exact hj
  rcases Nat.lt_or_ge j i with hl | hl
  · have e := mkU_new ur k i j hl hj'
    rw [List.getElem?_eq_getElem hj] at e
    refine ⟨ur[j], List.getElem_mem hj', ?_⟩
    rw [Option.some.inj e, getD_get dU hj']
  · have e := mkU_old ur k i j hl
    rw [List.getElem?_eq_getElem hj, List.getElem?_eq_getElem hj'] at e
    exact ⟨ur[j], List.getElem_mem hj', by rw [Option.some.inj e]⟩
end Go.Proofs.Ytggmjiddadjilak
namespace Go.Proofs.Ytggmjiddadjilak
open Go.RowKit

def inB (n lo hi : Int) : Bool := decide (lo ≤ n ∧ n ≤ hi)
theorem retB {a b : Bool} (h : a = b) : Ending.returned (.bool a) = .returned (.bool b) := by rw [h]
theorem inB_true {n lo hi : Int} (h1 : lo ≤ n) (h2 : n ≤ hi) : inB n lo hi = true := by simp [inB, h1, h2]
theorem inB_false {n lo hi : Int} (h : ¬ (lo ≤ n ∧ n ≤ hi)) : inB n lo hi = false := by simp only [inB, h, decide_false]
end Go.Proofs.Ytggmjiddadjilak
namespace Go.Proofs.Ytggmjiddadjilak
open Go.RowKit

theorem within_any (n lo hi : Int) (w : World) :
    Calls Try.prog 18 #[.int .i64 n, .int .i64 lo, .int .i64 hi] w fun e w' => e = .returned (.bool (inB n lo hi)) ∧ w' = w := by
  by_cases h1 : lo ≤ n
  · by_cases h2 : n ≤ hi
    · have HB : Hid (inB n lo hi = true) := inB_true h1 h2
      go_enter Try.func18, Try.ntmps18
      go_wp2
      go_ret
      exact ⟨retB HB.out.symm, rfl⟩
    · have HB : Hid (inB n lo hi = false) := inB_false (by omega)
      go_enter Try.func18, Try.ntmps18
      go_wp2
      go_ret
      exact ⟨retB HB.out.symm, rfl⟩
  · have HB : Hid (inB n lo hi = false) := inB_false (by omega)
    go_enter Try.func18, Try.ntmps18
    go_wp2
    go_ret
    exact ⟨retB HB.out.symm, rfl⟩

theorem l1In_any (n lo hi : Int) (w : World) :
    Calls Try.prog 23 #[.int .i64 n, .int .i64 lo, .int .i64 hi] w fun e w' => e = .returned (.bool (inB n lo hi)) ∧ w' = w := by
  by_cases h1 : lo ≤ n
  · by_cases h2 : n ≤ hi
    · have HB : Hid (inB n lo hi = true) := inB_true h1 h2
      go_enter Try.func23, Try.ntmps23
      go_wp2
      go_ret
      exact ⟨retB HB.out.symm, rfl⟩
    · have HB : Hid (inB n lo hi = false) := inB_false (by omega)
      go_enter Try.func23, Try.ntmps23
      go_wp2
      go_ret
      exact ⟨retB HB.out.symm, rfl⟩
  · have HB : Hid (inB n lo hi = false) := inB_false (by omega)
    go_enter Try.func23, Try.ntmps23
    go_wp2
    go_ret
    exact ⟨retB HB.out.symm, rfl⟩
end Go.Proofs.Ytggmjiddadjilak
namespace Go.Proofs.Ytggmjiddadjilak
open Go.RowKit

def brdOkB (a b : Int) : Bool := decide ((a = 0 ∨ a = 4) ∧ b = 0 ∨ (1 ≤ a ∧ a ≤ 3) ∧ 1 ≤ b ∧ b ≤ 3)
theorem brd_zero (b : Int) : brdOkB 0 b = (b == 0) := by rw [Bool.eq_iff_iff]; simp [brdOkB]
theorem brd_four (b : Int) : brdOkB 4 b = (b == 0) := by rw [Bool.eq_iff_iff]; simp [brdOkB]; 
theorem brd_seen {a : Int} (b : Int) (h1 : 1 ≤ a) (h2 : a ≤ 3) : brdOkB a b = inB b 1 3 := by rw [Bool.eq_iff_iff]; simp [brdOkB, inB]; omega
theorem brd_other {a : Int} (b : Int) (h0 : a ≠ 0) (h4 : a ≠ 4) (h : ¬ (1 ≤ a ∧ a ≤ 3)) : brdOkB a b = false := by simp [brdOkB]; omega
end Go.Proofs.Ytggmjiddadjilak
namespace Go.Proofs.Ytggmjiddadjilak
open Go.RowKit

/-- the i-th byte of a text, 0 past its end -/
def ch (s : ByteArray) (i : Nat) : Int := if h : i < s.size then (s[i].toNat : Int) else 0
def goodB (s : ByteArray) (i : Nat) : Bool := decide ((ch s i = 32 → i ≠ 0 ∧ i + 1 ≠ s.size ∧ ch s (i - 1) ≠ 32) ∧ (ch s i ≠ 32 → 97 ≤ ch s i ∧ ch s i ≤ 122))
def txtOkB (s : ByteArray) : Bool := decide (s.size ≤ 30) && (List.range s.size).all (goodB s)

theorem txtOkB_iff (s : ByteArray) : txtOkB s = true ↔ s.size ≤ 30 ∧ ∀ i, i < s.size → goodB s i = true := by
  simp [txtOkB, List.all_eq_true]
theorem txtOkB_long {s : ByteArray} (h : ¬ s.size ≤ 30) : txtOkB s = false := by simp [txtOkB, h]
theorem txtOkB_bad {s : ByteArray} (i : Nat) (hi : i < s.size) (h : goodB s i = false) : txtOkB s = false := by
  cases hb : txtOkB s with
  | false => rfl
  | true => rw [((txtOkB_iff s).1 hb).2 i hi] at h; cases h
theorem txtOkB_all {s : ByteArray} (h30 : s.size ≤ 30) (h : ∀ i, i < s.size → goodB s i = true) : txtOkB s = true := (txtOkB_iff s).2 ⟨h30, h⟩
theorem ch_at {s : ByteArray} {i : Nat} (h : i < s.size) : ch s i = (s[i].toNat : Int) := by simp [ch, h]
theorem next_all {s : ByteArray} {k : Nat} (h : ∀ j, j < k → goodB s j = true) (hk : goodB s k = true) : ∀ j, j < k + 1 → goodB s j = true := by
  intro j hj
  rcases Nat.lt_or_eq_of_le (Nat.lt_succ_iff.1 hj) with h1 | h1
  · exact h j h1
  · rw [h1]; exact hk
theorem toList_nil {s : ByteArray} (h : s.size = 0) : s.toList = [] := by
  rw [Lib.toList_data]; exact List.eq_nil_of_length_eq_zero (by simpa using h)
theorem size_nil {s : ByteArray} (h : s.toList = []) : s.size = 0 := by
  rw [Lib.toList_data] at h; have := congrArg List.length h; simpa using this
theorem ret_bool {a b : Bool} (h : a = b) : Ending.returned (.bool a) = .returned (.bool b) := by rw [h]

def bef (s : ByteArray) (k : Nat) : Int := if k = 0 then 32 else ch s (k - 1)
def goodI (s : ByteArray) (j : Nat) : Prop := (ch s j = 32 → bef s j ≠ 32) ∧ (ch s j ≠ 32 → 97 ≤ ch s j ∧ ch s j ≤ 122)
theorem goodI_next {s : ByteArray} {k : Nat} (h : ∀ j, j < k → goodI s j) (hk : goodI s k) : ∀ j, j < k + 1 → goodI s j := by
  intro j hj
  rcases Nat.lt_or_eq_of_le (Nat.lt_succ_iff.1 hj) with h1 | h1
  · exact h j h1
  · rw [h1]; exact hk
theorem txtOkB_badI {s : ByteArray} (k : Nat) (hk : k < s.size) (h : ¬ goodI s k) : txtOkB s = false := by
  refine txtOkB_bad k hk ?_
  unfold goodI bef at h
  unfold goodB
  rw [decide_eq_false_iff_not]
  intro ⟨h1, h2⟩
  apply h
  refine ⟨fun e => ?_, h2⟩
  obtain ⟨a, _, c⟩ := h1 e
  simp [a]; exact c
theorem txtOkB_endI {s : ByteArray} (h30 : s.size ≤ 30) (h : ∀ j, j < s.size → goodI s j) (hz : s.size ≠ 0) (hl : bef s s.size ≠ 32) : txtOkB s = true := by
  refine txtOkB_all h30 (fun i hi => ?_)
  have hg := h i hi
  unfold goodI bef at hg
  unfold bef at hl
  unfold goodB
  rw [decide_eq_true_iff]
  refine ⟨fun e => ?_, hg.2⟩
  have h1 := hg.1 e
  by_cases i0 : i = 0
  · simp [i0] at h1
  · simp [i0] at h1
    refine ⟨i0, fun he => ?_, h1⟩
    rw [if_neg hz, ← he] at hl
    simp at hl
    exact hl e
theorem txtOkB_emptyI {s : ByteArray} (hz : s.size = 0) : txtOkB s = true := txtOkB_all (by omega) (fun i hi => by omega)
theorem txtOkB_lastI {s : ByteArray} (hz : s.size ≠ 0) (hl : bef s s.size = 32) : txtOkB s = false := by
  refine txtOkB_bad (s.size - 1) (by omega) ?_
  unfold bef at hl
  rw [if_neg hz] at hl
  unfold goodB
  rw [decide_eq_false_iff_not]
  intro ⟨h1, _⟩
  exact (h1 hl).2.1 (by omega)
theorem bef_succ {s : ByteArray} {k : Nat} (h : k < s.size) : bef s (k + 1) = (s[k].toNat : Int) := by simp [bef, ch, h]

set_option maxRecDepth 100000 in
set_option maxHeartbeats 400000 in
theorem implTxtOk (s : ByteArray) (w : World) (hs : s.size ≤ maxLen) :
    Calls Try.prog 26 #[.string s] w fun e w' => e = .returned (.bool (txtOkB s)) ∧ w' = w := by
  unfold maxLen at hs
  by_cases h30 : s.size ≤ 30
  · go_enter Try.func26, Try.ntmps26
    go_wp2
    go_loop [3, 4, 10] (fun b _ i => ∃ (k : Nat) (B : Int), k ≤ s.size ∧ i = .int .i64 k ∧ b = .int .u8 B ∧ Hid (bef s k = B) ∧ Hid (∀ j, j < k → goodI s j)) (fun _ _ i => s.size - (intOf i).toNat)
    case atStart => exact ⟨0, 32, Nat.zero_le _, rfl, rfl, rfl, fun j hj => absurd hj (Nat.not_lt_zero _)⟩
    case round =>
      obtain ⟨k, B, hk, rfl, rfl, HBf, HA⟩ := hrel
      by_cases hlt : k < s.size
      · have hb : (s[k].toNat : Int) < 256 := by have := s[k].toNat_lt; omega
        have HC : Hid (ch s k = (s[k].toNat : Int)) := ch_at hlt
        have HS : Hid (bef s (k + 1) = (s[k].toNat : Int)) := bef_succ hlt
        by_cases hc : (s[k].toNat : Int) = 32
        · have hc' : ((s[k].toNat : Int) == 32) = true := beq_iff_eq.2 hc
          have hc2 : ((s[k].toNat : Int) != 32) = false := by rw [bne, hc']; rfl
          have HE : Hid (ch s k = 32) := HC.out.trans hc
          clear hc HC hb
          by_cases hB : B = 32
          · as_aux_lemma =>
              have hB' : (B == 32) = true := beq_iff_eq.2 hB
              have HF : Hid (txtOkB s = false) := txtOkB_badI k hlt (fun hg => hg.1 HE.out (HBf.out.trans hB))
              clear hB HE HBf HA HS
              go_wp2
              go_ret
              exact ⟨ret_bool HF.out.symm, rfl⟩
          · as_aux_lemma =>
              have hB' : (B == 32) = false := beq_eq_false_iff_ne.2 hB
              have HN : Hid (∀ j, j < k + 1 → goodI s j) := goodI_next HA.out ⟨fun _ => by rw [HBf.out]; exact hB, fun hne => absurd HE.out hne⟩
              clear hB HE HBf HA
              go_wp2
              go_round
              case rel => exact ⟨k + 1, _, by omega, by go_num, rfl, HS, HN⟩
              case measure => simp [intOf]; omega
        · have hc' : ((s[k].toNat : Int) == 32) = false := beq_eq_false_iff_ne.2 hc
          have hc2 : ((s[k].toNat : Int) != 32) = true := bne_iff_ne.2 hc
          by_cases hr : 97 ≤ (s[k].toNat : Int) ∧ (s[k].toNat : Int) ≤ 122
          · as_aux_lemma =>
              have HN : Hid (∀ j, j < k + 1 → goodI s j) := goodI_next HA.out ⟨fun he => absurd (HC.out.symm.trans he) hc, fun _ => by rw [HC.out]; exact hr⟩
              obtain ⟨hr1, hr2⟩ := hr
              clear HC HA hc HBf
              go_wp2
              go_round
              case rel => exact ⟨k + 1, _, by omega, by go_num, rfl, HS, HN⟩
              case measure => simp [intOf]; omega
          · have HF : Hid (txtOkB s = false) := txtOkB_badI k hlt (fun hg => hr (by have := hg.2 (by rw [HC.out]; exact hc); rw [HC.out] at this; exact this))
            clear HC HA hc HBf HS
            by_cases hr1 : 97 ≤ (s[k].toNat : Int)
            · as_aux_lemma =>
                have hr2 : ¬ (s[k].toNat : Int) ≤ 122 := by omega
                clear hr
                go_wp2
                go_ret
                exact ⟨ret_bool HF.out.symm, rfl⟩
            · as_aux_lemma =>
                clear hr
                go_wp2
                go_ret
                exact ⟨ret_bool HF.out.symm, rfl⟩
      · obtain rfl : k = s.size := by omega
        by_cases hz : s.size = 0
        · have he : s.toList = [] := toList_nil hz
          have HF : Hid (txtOkB s = true) := txtOkB_emptyI hz
          clear HBf HA
          go_wp2
          go_ret
          exact ⟨ret_bool HF.out.symm, rfl⟩
        · have he : ¬ s.toList = [] := fun h => hz (size_nil h)
          have he2 : s.toList.isEmpty = false := by simpa using he
          by_cases hB : B = 32
          · have hB' : (B != 32) = false := by simp [hB]
            have HF : Hid (txtOkB s = false) := txtOkB_lastI hz (HBf.out.trans hB)
            clear HBf HA hB hz he
            go_wp2
            go_ret
            exact ⟨ret_bool HF.out.symm, rfl⟩
          · have hB' : (B != 32) = true := bne_iff_ne.2 hB
            have HF : Hid (txtOkB s = true) := txtOkB_endI h30 HA.out hz (by rw [HBf.out]; exact hB)
            clear HBf HA hB hz he
            go_wp2
            go_ret
            exact ⟨ret_bool HF.out.symm, rfl⟩
  · go_enter Try.func26, Try.ntmps26
    go_wp2
    go_ret
    exact ⟨ret_bool (txtOkB_long h30).symm, rfl⟩
end Go.Proofs.Ytggmjiddadjilak
namespace Go.Proofs.Ytggmjiddadjilak
open Go.RowKit

set_option maxRecDepth 100000 in
set_option maxHeartbeats 400000 in
theorem specTxtOk (s : ByteArray) (w : World) (hs : s.size ≤ maxLen) :
    Calls Try.prog 37 #[.string s] w fun e w' => e = .returned (.bool (txtOkB s)) ∧ w' = w := by
  unfold maxLen at hs
  by_cases h30 : s.size ≤ 30
  · go_enter Try.func37, Try.ntmps37
    go_wp2
    go_loop [3] (fun i => ∃ k : Nat, k ≤ s.size ∧ i = .int .i64 k ∧ ∀ j, j < k → goodB s j = true) (fun i => s.size - (intOf i).toNat)
    case atStart => exact ⟨0, Nat.zero_le _, rfl, fun j hj => absurd hj (Nat.not_lt_zero _)⟩
    case round =>
      obtain ⟨k, hk, rfl, hall0⟩ := hrel
      have HA : Hid (∀ j, j < k → goodB s j = true) := hall0
      clear hall0
      by_cases hlt : k < s.size
      · have hb : (s[k].toNat : Int) < 256 := by have := s[k].toNat_lt; omega
        have HC : Hid (ch s k = (s[k].toNat : Int)) := ch_at hlt
        by_cases hc : (s[k].toNat : Int) = 32
        · have hc' : ((s[k].toNat : Int) == 32) = true := beq_iff_eq.2 hc
          have HE : Hid (ch s k = 32) := HC.out.trans hc
          clear hc HC hb
          by_cases h0 : k = 0
          · as_aux_lemma =>
              subst h0
              have hbad : goodB s 0 = false := by simp [goodB, HE.out]
              have HB : Hid (txtOkB s = false) := txtOkB_bad 0 hlt hbad
              clear hbad HE HA
              go_wp2
              go_ret
              exact ⟨ret_bool HB.out.symm, rfl⟩
          · have h0' : ((k : Int) == 0) = false := beq_eq_false_iff_ne.2 (by omega)
            by_cases h1 : k + 1 = s.size
            · as_aux_lemma =>
                have h1' : ((k : Int) == (s.size : Int) - 1) = true := beq_iff_eq.2 (by omega)
                have hbad : goodB s k = false := by simp [goodB, HE.out, h1]
                have HB : Hid (txtOkB s = false) := txtOkB_bad k hlt hbad
                clear hbad HE HA h1 h0
                go_wp2
                go_ret
                exact ⟨ret_bool HB.out.symm, rfl⟩
            · have h1' : ((k : Int) == (s.size : Int) - 1) = false := beq_eq_false_iff_ne.2 (by omega)
              have hl2 : k - 1 < s.size := by omega
              have HP : Hid (ch s (k - 1) = (s[k - 1].toNat : Int)) := ch_at hl2
              by_cases hp : (s[k - 1].toNat : Int) = 32
              · as_aux_lemma =>
                  have hp' : ((s[k - 1].toNat : Int) == 32) = true := beq_iff_eq.2 hp
                  have hbad : goodB s k = false := by simp [goodB, HE.out, HP.out, hp]
                  have HB : Hid (txtOkB s = false) := txtOkB_bad k hlt hbad
                  clear hbad HE HA HP hp
                  go_wp2
                  go_ret
                  exact ⟨ret_bool HB.out.symm, rfl⟩
              · as_aux_lemma =>
                  have hp' : ((s[k - 1].toNat : Int) == 32) = false := beq_eq_false_iff_ne.2 hp
                  have hc2 : ((s[k].toNat : Int) != 32) = false := by rw [bne, hc']; rfl
                  have hgood : goodB s k = true := by simp [goodB, HE.out, HP.out, hp, h0, h1]
                  have HN : Hid (∀ j, j < k + 1 → goodB s j = true) := next_all HA.out hgood
                  clear hgood HE HA HP hp
                  go_wp2
                  go_round
                  case rel => exact ⟨k + 1, by omega, by go_num, HN.out⟩
                  case measure => simp [intOf]; omega
        · have hc' : ((s[k].toNat : Int) == 32) = false := beq_eq_false_iff_ne.2 hc
          have hc2 : ((s[k].toNat : Int) != 32) = true := bne_iff_ne.2 hc
          by_cases hr : 97 ≤ (s[k].toNat : Int) ∧ (s[k].toNat : Int) ≤ 122
          · as_aux_lemma =>
              obtain ⟨hr1, hr2⟩ := hr
              have hgood : goodB s k = true := by simp [goodB, HC.out]; omega
              have HN : Hid (∀ j, j < k + 1 → goodB s j = true) := next_all HA.out hgood
              clear hgood HC HA hc
              go_wp2
              go_round
              case rel => exact ⟨k + 1, by omega, by go_num, HN.out⟩
              case measure => simp [intOf]; omega
          · have hbad : goodB s k = false := by simp [goodB, HC.out]; omega
            have HB : Hid (txtOkB s = false) := txtOkB_bad k hlt hbad
            clear hbad HC HA hc
            by_cases hr1 : 97 ≤ (s[k].toNat : Int)
            · as_aux_lemma =>
                have hr2 : ¬ (s[k].toNat : Int) ≤ 122 := by omega
                clear hr
                go_wp2
                go_ret
                exact ⟨ret_bool HB.out.symm, rfl⟩
            · as_aux_lemma =>
                clear hr
                go_wp2
                go_ret
                exact ⟨ret_bool HB.out.symm, rfl⟩
      · go_wp2
        go_ret
        exact ⟨ret_bool (txtOkB_all h30 (fun i hi => HA.out i (by omega))).symm, rfl⟩
  · go_enter Try.func37, Try.ntmps37
    go_wp2
    go_ret
    exact ⟨ret_bool (txtOkB_long h30).symm, rfl⟩
end Go.Proofs.Ytggmjiddadjilak
namespace Go.Proofs.Ytggmjiddadjilak
open Go.RowKit

def cellOkB (s : ByteArray) (c r a1 b1 a2 b2 a3 b3 a4 b4 : Int) : Bool := txtOkB s && (inB c 1 4 && (inB r 1 4 && (brdOkB a1 b1 && (brdOkB a2 b2 && (brdOkB a3 b3 && brdOkB a4 b4)))))
theorem Hid.mk {p : Prop} (h : p) : Hid p := h
end Go.Proofs.Ytggmjiddadjilak
namespace Go.Proofs.Ytggmjiddadjilak
open Go.RowKit

def colB (k n : Int) : Bool := decide (k = 0 ∧ n = 0 ∨ k = 1 ∧ 0 ≤ n ∧ n ≤ 60 ∨ k = 2 ∧ 1 ≤ n ∧ n ≤ 100)
theorem colB_0 (n : Int) : colB 0 n = inB n 0 0 := by rw [Bool.eq_iff_iff]; simp [colB, inB]; omega
theorem colB_0' (n : Int) : colB 0 n = (n == 0) := by rw [Bool.eq_iff_iff]; simp [colB]
theorem colB_1 (n : Int) : colB 1 n = inB n 0 60 := by rw [Bool.eq_iff_iff]; simp [colB, inB]
theorem colB_2 (n : Int) : colB 2 n = inB n 1 100 := by rw [Bool.eq_iff_iff]; simp [colB, inB]
theorem colB_no {k : Int} (n : Int) (h0 : k ≠ 0) (h1 : k ≠ 1) (h2 : k ≠ 2) : colB k n = false := by simp [colB]; omega
end Go.Proofs.Ytggmjiddadjilak
namespace Go.Proofs.Ytggmjiddadjilak
open Go.RowKit

def cB (x : C) : Bool := cellOkB x.s x.c x.r x.a1 x.b1 x.a2 x.b2 x.a3 x.b3 x.a4 x.b4
def rowB (r : R) : Bool := decide (r.cells.length ≤ 5) && r.cells.all cB
def colsB (ps : List (Int × Int)) : Bool := decide (ps.length ≤ 8) && ps.all (fun p => colB p.1 p.2)
def partsB (n : Nat) (hd ft : Int) : Bool := inB hd 0 n && inB ft 0 (n - hd)
theorem all_true {α : Type} (d : α) (p : α → Bool) (l : List α) (h : ∀ j, j < l.length → p (l.getD j d) = true) : l.all p = true := by
  rw [List.all_eq_true]
  intro x hx
  obtain ⟨j, hj, rfl⟩ := List.getElem_of_mem hx
  have e : l.getD j d = l[j] := by simp [List.getD, hj]
  rw [← e]; exact h j hj
theorem all_false {α : Type} (d : α) (p : α → Bool) (l : List α) (k : Nat) (hk : k < l.length) (h : p (l.getD k d) = false) : l.all p = false := by
  have e : l.getD k d = l[k] := by simp [List.getD, hk]
  rw [e] at h
  cases hb : l.all p with
  | false => rfl
  | true => rw [List.all_eq_true.1 hb _ (List.getElem_mem hk)] at h; cases h
theorem next_true {α : Type} {d : α} {p : α → Bool} {l : List α} {k : Nat} (h : ∀ j, j < k → p (l.getD j d) = true) (hk : p (l.getD k d) = true) : ∀ j, j < k + 1 → p (l.getD j d) = true := by
  intro j hj
  rcases Nat.lt_or_eq_of_le (Nat.lt_succ_iff.1 hj) with h1 | h1
  · exact h j h1
  · rw [h1]; exact hk
def tblB (t : T) : Bool := inB t.rows.length 1 8 && (partsB t.rows.length t.head t.foot && (inB t.gap 0 3 && (colsB t.cols && t.rows.all rowB)))
theorem newestO (w : World) (q : Obj) : (w.alloc q).heap[w.heap.size]? = some q := by show (w.heap.push q)[w.heap.size]? = _; simp
theorem fiveO {w : World} {g : Nat} {x0 x1 x2 x3 x4 : Value} {t : TypeId} (h : w.heap[g]? = some (.cells #[x0, x1, x2, x3, x4] t)) :
    w.cell? ⟨g, 0, none⟩ = some x0 ∧ w.cell? ⟨g, 1, none⟩ = some x1 ∧ w.cell? ⟨g, 2, none⟩ = some x2 ∧ w.cell? ⟨g, 3, none⟩ = some x3 ∧ w.cell? ⟨g, 4, none⟩ = some x4 :=
  ⟨Joins.cell_of_block h 0, Joins.cell_of_block h 1, Joins.cell_of_block h 2, Joins.cell_of_block h 3, Joins.cell_of_block h 4⟩
end Go.Proofs.Ytggmjiddadjilak
