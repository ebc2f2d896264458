/-
  PROVED HERE: the law FnTblOk returns true at every code that lies in memory.
-/
import Derived.Test.YtfkfgmfahoeaoamDrawTO
import Derived.Test.YtfkfgmfahoeaoamAnyInv2
import Derived.Deep.DeepCutAuto
import Derived.Deep.RegionWith
import Derived.Deep.LoopGhost
namespace Go.Proofs.Ytfkfgmfahoeaoam
open Go.RowKit

theorem vB {a b : Bool} (h : a = b) : Value.bool a = .bool b := by rw [h]
/-- what the law reckons first -/
def ok0B (t : T) : Bool := decide (1 ≤ (t.rows.length : Int)) && (decide ((t.rows.length : Int) ≤ 8) && (decide ((t.cols.length : Int) ≤ 8) && (decide (0 ≤ t.head) && (decide (0 ≤ t.foot) && (decide (t.head + t.foot ≤ t.rows.length) && (decide (0 ≤ t.gap) && decide (t.gap ≤ 3)))))))
def colP (p : Int × Int) : Bool := colB p.1 p.2
def all1 (t : T) : Bool := ok0B t && t.cols.all colP
theorem all_eq (t : T) : (all1 t && t.rows.all rowB) = tblB t := by
  rw [Bool.eq_iff_iff]
  simp only [all1, ok0B, tblB, inB, partsB, colsB, Bool.and_eq_true, decide_eq_true_eq]
  constructor
  · rintro ⟨⟨⟨h1, h2, h3, h4, h5, h6, h7, h8⟩, h9⟩, h10⟩
    exact ⟨by omega, ⟨by omega, by omega⟩, by omega, ⟨by omega, h9⟩, h10⟩
  · rintro ⟨h1, ⟨h2, h3⟩, h4, ⟨h5, h6⟩, h7⟩
    exact ⟨⟨⟨by omega, by omega, by omega, by omega, by omega, by omega, by omega, by omega⟩, h6⟩, h7⟩
theorem all_take_succ {α : Type} (p : α → Bool) (d : α) (l : List α) {k : Nat} (h : k < l.length) : (l.take (k + 1)).all p = ((l.take k).all p && p (l.getD k d)) := by
  rw [List.take_succ_eq_append_getElem h, List.all_append]
  simp [List.getD, h]
/-- the table, its two slices at hand -/
def TA (w : World) (z : Nat) (ac ar : Option Addr) (cc cr : Nat) (t : T) : Prop := ColsAt w z (.slice ac t.cols.length cc) t.cols ∧ RowsAt w z (.slice ar t.rows.length cr) t.rows
theorem TA.kept {w w' : World} {z : Nat} {ac ar : Option Addr} {cc cr : Nat} {t : T} (h : TA w z ac ar cc cr t) (hb : Below w.heap.size w w') : TA w' z ac ar cc cr t := ⟨h.1.kept hb, h.2.kept hb⟩
/-- what stays all along -/
def St (w : World) (tb : Nat) (ac ar : Option Addr) (cc cr : Nat) (t : T) (W : World) : Prop := Below w.heap.size w W ∧ TA W w.heap.size ac ar cc cr t ∧ W.heap[tb]? = some (.cells #[.slice ac t.cols.length cc, .int .i64 t.head, .int .i64 t.foot, .slice ar t.rows.length cr, .int .i64 t.gap] 34)
theorem St.kept {w W W' : World} {tb : Nat} {ac ar : Option Addr} {cc cr : Nat} {t : T} (h : St w tb ac ar cc cr t W) (hb : Below W.heap.size W W') : St w tb ac ar cc cr t W' :=
  ⟨h.1.trans (hb.mono h.1.size), h.2.1.kept hb, (hb.block tb (Array.getElem?_eq_some_iff.1 h.2.2).1).trans h.2.2⟩
theorem St.at {w W : World} {tb : Nat} {ac ar : Option Addr} {cc cr : Nat} {t : T} (h : St w tb ac ar cc cr t W) : (W.cell? ⟨tb, 0, none⟩ = some (.slice ac t.cols.length cc) ∧ W.cell? ⟨tb, 1, none⟩ = some (.int .i64 t.head) ∧ W.cell? ⟨tb, 2, none⟩ = some (.int .i64 t.foot) ∧ W.cell? ⟨tb, 3, none⟩ = some (.slice ar t.rows.length cr) ∧ W.cell? ⟨tb, 4, none⟩ = some (.int .i64 t.gap)) := (fiveZ h.2.2).1

structure OkJ (wr : World) (tv : Value) (d : Bool) (L : Nat → Bool) (w : World) (v2 v156 v157 v158 v159 v160 v161 v162 v163 v164 v165 v166 v167 v168 v169 v170 v171 v172 : Value) : Prop where
  f0 : L 0 = true → v156 = tv
  f1 : L 1 = true → v157 = .bool d
  f2 : L 2 = true → v158 = .bool d
  f3 : L 3 = true → v159 = .bool true
  f4 : L 4 = true → v160 = .bool true
  f5 : L 5 = true → v161 = tv
  f6 : L 6 = true → v162 = .bool d
  f7 : L 7 = true → v163 = tv
  f8 : L 8 = true → v164 = .bool d
  f9 : L 9 = true → v165 = .bool true
  f10 : L 10 = true → v166 = .bool true
  f11 : L 11 = true → v167 = .bool true
  f12 : L 12 = true → v168 = .agg #[.slice none 0 0, .bool false]
  f13 : L 13 = true → ∃ g, v169 = .slice (some ⟨g, 0, none⟩) 1 1 ∧ w.heap[g]? = some (.cells #[.slice none 0 0, .bool false] 40)
  f14 : L 14 = true → ∃ g, v170 = .agg #[.slice none 0 0, .int .i64 0, .int .i64 0, .slice (some ⟨g, 0, none⟩) 1 1, .int .i64 0] ∧ w.heap[g]? = some (.cells #[.slice none 0 0, .bool false] 40)
  f15 : L 15 = true → v171 = .bool true
  f16 : L 16 = true → v172 = .bool true
  f17 : L 17 = true → v2 = .bool true
  bk : Below wr.heap.size wr w
def okJ (wr : World) (tv : Value) (d : Bool) (mk : Value → Value → Value → Value → Value → Value → Value → Value → Value → Value → Value → Value → Value → Value → Value → Value → Value → Value → Act) (L : Nat → Bool) (a : Act) (w : World) : Prop := ∃ v2 v156 v157 v158 v159 v160 v161 v162 v163 v164 v165 v166 v167 v168 v169 v170 v171 v172 : Value, a = mk v2 v156 v157 v158 v159 v160 v161 v162 v163 v164 v165 v166 v167 v168 v169 v170 v171 v172 ∧ OkJ wr tv d L w v2 v156 v157 v158 v159 v160 v161 v162 v163 v164 v165 v166 v167 v168 v169 v170 v171 v172
theorem blk_kept {w w' : World} {g : Nat} {o : Obj} (h : w.heap[g]? = some o) (hb : Below w.heap.size w w') : w'.heap[g]? = some o := (hb.block g (Array.getElem?_eq_some_iff.1 h).1).trans h
theorem one_at {w : World} {g : Nat} (h : w.heap[g]? = some (.cells #[.slice none 0 0, .bool false] 40)) : RowsAt w 0 (.slice (some ⟨g, 0, none⟩) 1 1) [dR] :=
  ⟨_, _, rfl, Nat.le_refl _, by unfold maxLen; omega, fun i hi => ⟨g, 0, rfl, (Array.getElem?_eq_some_iff.1 h).1, Nat.zero_le _, by
    obtain rfl : i = 0 := by simp at hi; omega
    exact ⟨.slice none 0 0, cellB h, cellB h, ⟨none, 0, rfl, Nat.le_refl _, by unfold maxLen; omega, fun j hj => by simp [dR] at hj⟩⟩⟩⟩

set_option maxRecDepth 100000 in
set_option maxHeartbeats 4000000 in
theorem lawTblOk_walk (A : Option Addr) (len cap : Nat) (hlen : len ≤ 1048576) (w : World) (h : IsCode w A len cap) :
    Calls Try.prog 4 #[.slice A len cap] w fun e w' => e = .returned (.bool true) ∧ Below w.heap.size w w' := by
  have hl : ¬ (1048576 : Int) < (len : Int) := by omega
  have HD := Hid.intro h
  clear h
  go_enter Try.func4, Try.ntmps4
  go_wp2_with fail
  refine (drawTblOk_any _ _ _ _ HD.out).mono ?_
  rintro e w1 ⟨ac, ar, cc, cr, t, rfl, hD, hC1, hW1, hb1⟩
  have hdr := hD.rows
  have hdc := hD.cols
  have hdh := hD.head
  have hdf := hD.foot
  have hdg := hD.gap
  have HS : Hid (St w w1.heap.size ac ar cc cr t (w1.alloc (.cells #[.slice ac t.cols.length cc, .int .i64 t.head, .int .i64 t.foot, .slice ar t.rows.length cr, .int .i64 t.gap] 34))) := ⟨hb1.alloc hb1.size _, TA.kept ⟨hC1, hW1⟩ (k_alloc (Below.refl _ _) _), newestB _ _⟩
  clear hC1 hW1 hb1 hD HD
  go_upto_region 5 with fail
  obtain ⟨W1, hW1⟩ : ∃ W1, w1.alloc (.cells #[.slice ac t.cols.length cc, .int .i64 t.head, .int .i64 t.foot, .slice ar t.rows.length cr, .int .i64 t.gap] 34) = W1 := ⟨_, rfl⟩
  rw [hW1] at HS ⊢
  clear hW1
  obtain ⟨z0, z1, z2, z3, z4⟩ := HS.out.at
  go_cut [5] (fun s W => s = .bool (ok0B t) ∧ Hid (St w w1.heap.size ac ar cc cr t W))
  case first =>
    by_cases c0 : 1 ≤ (t.rows.length : Int)
    case neg =>
      have HF : Hid (ok0B t = false) := Hid.intro (by simp [ok0B]; omega)
      go_wp2_with fail
      go_meet
      case rel => exact ⟨vB HF.out.symm, HS⟩
    by_cases c1 : (t.rows.length : Int) ≤ 8
    case neg =>
      have HF : Hid (ok0B t = false) := Hid.intro (by simp [ok0B]; omega)
      go_wp2_with fail
      go_meet
      case rel => exact ⟨vB HF.out.symm, HS⟩
    by_cases c2 : (t.cols.length : Int) ≤ 8
    case neg =>
      have HF : Hid (ok0B t = false) := Hid.intro (by simp [ok0B]; omega)
      go_wp2_with fail
      go_meet
      case rel => exact ⟨vB HF.out.symm, HS⟩
    by_cases c3 : 0 ≤ t.head
    case neg =>
      have HF : Hid (ok0B t = false) := Hid.intro (by simp [ok0B]; omega)
      go_wp2_with fail
      go_meet
      case rel => exact ⟨vB HF.out.symm, HS⟩
    by_cases c4 : 0 ≤ t.foot
    case neg =>
      have HF : Hid (ok0B t = false) := Hid.intro (by simp [ok0B]; omega)
      go_wp2_with fail
      go_meet
      case rel => exact ⟨vB HF.out.symm, HS⟩
    by_cases c5 : t.head + t.foot ≤ (t.rows.length : Int)
    case neg =>
      have HF : Hid (ok0B t = false) := Hid.intro (by simp [ok0B]; omega)
      go_wp2_with fail
      go_meet
      case rel => exact ⟨vB HF.out.symm, HS⟩
    by_cases c6 : 0 ≤ t.gap
    case neg =>
      have HF : Hid (ok0B t = false) := Hid.intro (by simp [ok0B]; omega)
      go_wp2_with fail
      go_meet
      case rel => exact ⟨vB HF.out.symm, HS⟩
    have HF : Hid (ok0B t = decide (t.gap ≤ 3)) := Hid.intro (by simp only [ok0B, c0, c1, c2, c3, c4, c5, c6, decide_true, Bool.true_and])
    go_wp2_with fail
    go_meet
    case rel => exact ⟨vB HF.out.symm, HS⟩
  case rest =>
    obtain ⟨rfl, HS1⟩ := hcut
    clear z0 z1 z2 z3 z4 HS
    obtain ⟨z0, z1, z2, z3, z4⟩ := HS1.out.at
    go_wp2_with fail
    go_loopw [5, 6, 7, 8, 9] (fun s i _ _ _ W => ∃ (k : Nat) (b : Bool), s = .bool b ∧ i = .int .i64 k ∧ k ≤ t.cols.length ∧ Hid (b = (ok0B t && (t.cols.take k).all colP)) ∧ Hid (St w w1.heap.size ac ar cc cr t W)) (fun _ i _ _ _ _ => t.cols.length - (intOf i).toNat)
    case atStart => exact ⟨0, ok0B t, rfl, rfl, by omega, Hid.intro (by simp), HS1⟩
    case round =>
      obtain ⟨k, b, rfl, rfl, hk, HBk, HSr⟩ := hrel
      obtain ⟨y0, y1, y2, y3, y4⟩ := HSr.out.at
      clear z0 z1 z2 z3 z4 HS1
      by_cases hlt : k < t.cols.length
      · have hlt' : (k : Int) < (t.cols.length : Int) := by omega
        obtain ⟨g, off, cap', e', hc1, hc2, hbl, hx, hy⟩ := At.get HSr.out.2.1.1 hlt
        simp only [Value.slice.injEq, true_and] at e'
        obtain ⟨rfl, rfl⟩ := e'
        unfold maxLen at hc2
        have HN : Hid ((ok0B t && (t.cols.take (k + 1)).all colP) = (b && colB (t.cols.getD k (0, 0)).1 (t.cols.getD k (0, 0)).2)) := by
          show _ = _
          rw [HBk.out, all_take_succ colP (0, 0) t.cols hlt, ← Bool.and_assoc]
          rfl
        generalize (t.cols.getD k (0, 0)).1 = kd at hx HN
        generalize (t.cols.getD k (0, 0)).2 = nb at hy HN
        have HS2 := Hid.intro (HSr.out.kept (k_alloc (Below.refl _ _) (.cells #[.int .i64 kd, .int .i64 nb] 37)))
        clear HBk HSr
        cases b with
        | false =>
          by_cases e0 : kd = 0
          · subst e0
            by_cases e1 : nb = 0
            · subst e1
              have HV : Hid (false = (ok0B t && (t.cols.take (k + 1)).all colP)) := Hid.intro (by rw [HN.out]; simp)
              clear HN
              go_wp2
              go_roundw
              case rel => exact ⟨k + 1, _, rfl, by go_num, by omega, HV, HS2⟩
              case measure => simp [intOf]; omega
            · have e1' : (nb == 0) = false := beq_eq_false_iff_ne.2 e1
              have HV : Hid (false = (ok0B t && (t.cols.take (k + 1)).all colP)) := Hid.intro (by rw [HN.out]; simp)
              clear HN
              go_wp2
              go_roundw
              case rel => exact ⟨k + 1, _, rfl, by go_num, by omega, HV, HS2⟩
              case measure => simp [intOf]; omega
          have f0 : (kd == 0) = false := beq_eq_false_iff_ne.2 e0
          by_cases e2 : kd = 1
          · subst e2
            by_cases e3 : 0 ≤ nb
            · by_cases e4 : nb ≤ 60
              · skip
                have HV : Hid (false = (ok0B t && (t.cols.take (k + 1)).all colP)) := Hid.intro (by rw [HN.out]; simp)
                clear HN
                go_wp2
                go_roundw
                case rel => exact ⟨k + 1, _, rfl, by go_num, by omega, HV, HS2⟩
                case measure => simp [intOf]; omega
              · skip
                have HV : Hid (false = (ok0B t && (t.cols.take (k + 1)).all colP)) := Hid.intro (by rw [HN.out]; simp)
                clear HN
                go_wp2
                go_roundw
                case rel => exact ⟨k + 1, _, rfl, by go_num, by omega, HV, HS2⟩
                case measure => simp [intOf]; omega
            · skip
              have HV : Hid (false = (ok0B t && (t.cols.take (k + 1)).all colP)) := Hid.intro (by rw [HN.out]; simp)
              clear HN
              go_wp2
              go_roundw
              case rel => exact ⟨k + 1, _, rfl, by go_num, by omega, HV, HS2⟩
              case measure => simp [intOf]; omega
          have f1 : (kd == 1) = false := beq_eq_false_iff_ne.2 e2
          by_cases e5 : kd = 2
          · subst e5
            by_cases e6 : 1 ≤ nb
            · by_cases e7 : nb ≤ 100
              · skip
                have HV : Hid (false = (ok0B t && (t.cols.take (k + 1)).all colP)) := Hid.intro (by rw [HN.out]; simp)
                clear HN
                go_wp2
                go_roundw
                case rel => exact ⟨k + 1, _, rfl, by go_num, by omega, HV, HS2⟩
                case measure => simp [intOf]; omega
              · skip
                have HV : Hid (false = (ok0B t && (t.cols.take (k + 1)).all colP)) := Hid.intro (by rw [HN.out]; simp)
                clear HN
                go_wp2
                go_roundw
                case rel => exact ⟨k + 1, _, rfl, by go_num, by omega, HV, HS2⟩
                case measure => simp [intOf]; omega
            · skip
              have HV : Hid (false = (ok0B t && (t.cols.take (k + 1)).all colP)) := Hid.intro (by rw [HN.out]; simp)
              clear HN
              go_wp2
              go_roundw
              case rel => exact ⟨k + 1, _, rfl, by go_num, by omega, HV, HS2⟩
              case measure => simp [intOf]; omega
          have f2 : (kd == 2) = false := beq_eq_false_iff_ne.2 e5
          have HV : Hid (false = (ok0B t && (t.cols.take (k + 1)).all colP)) := Hid.intro (by rw [HN.out]; simp)
          clear HN
          go_wp2
          go_roundw
          case rel => exact ⟨k + 1, _, rfl, by go_num, by omega, HV, HS2⟩
          case measure => simp [intOf]; omega
        | true =>
          by_cases e0 : kd = 0
          · subst e0
            by_cases e1 : nb = 0
            · subst e1
              have HV : Hid (true = (ok0B t && (t.cols.take (k + 1)).all colP)) := Hid.intro (by rw [HN.out]; rfl)
              clear HN
              go_wp2
              go_roundw
              case rel => exact ⟨k + 1, _, rfl, by go_num, by omega, HV, HS2⟩
              case measure => simp [intOf]; omega
            · have e1' : (nb == 0) = false := beq_eq_false_iff_ne.2 e1
              have HV : Hid (false = (ok0B t && (t.cols.take (k + 1)).all colP)) := Hid.intro (by rw [HN.out]; rw [colB_0', e1']; rfl)
              clear HN
              go_wp2
              go_roundw
              case rel => exact ⟨k + 1, _, rfl, by go_num, by omega, HV, HS2⟩
              case measure => simp [intOf]; omega
          have f0 : (kd == 0) = false := beq_eq_false_iff_ne.2 e0
          by_cases e2 : kd = 1
          · subst e2
            by_cases e3 : 0 ≤ nb
            · by_cases e4 : nb ≤ 60
              · skip
                have HV : Hid (true = (ok0B t && (t.cols.take (k + 1)).all colP)) := Hid.intro (by rw [HN.out]; rw [colB_1, inB_true e3 e4]; rfl)
                clear HN
                go_wp2
                go_roundw
                case rel => exact ⟨k + 1, _, rfl, by go_num, by omega, HV, HS2⟩
                case measure => simp [intOf]; omega
              · skip
                have HV : Hid (false = (ok0B t && (t.cols.take (k + 1)).all colP)) := Hid.intro (by rw [HN.out]; rw [colB_1, inB_false (by omega)]; rfl)
                clear HN
                go_wp2
                go_roundw
                case rel => exact ⟨k + 1, _, rfl, by go_num, by omega, HV, HS2⟩
                case measure => simp [intOf]; omega
            · skip
              have HV : Hid (false = (ok0B t && (t.cols.take (k + 1)).all colP)) := Hid.intro (by rw [HN.out]; rw [colB_1, inB_false (by omega)]; rfl)
              clear HN
              go_wp2
              go_roundw
              case rel => exact ⟨k + 1, _, rfl, by go_num, by omega, HV, HS2⟩
              case measure => simp [intOf]; omega
          have f1 : (kd == 1) = false := beq_eq_false_iff_ne.2 e2
          by_cases e5 : kd = 2
          · subst e5
            by_cases e6 : 1 ≤ nb
            · by_cases e7 : nb ≤ 100
              · skip
                have HV : Hid (true = (ok0B t && (t.cols.take (k + 1)).all colP)) := Hid.intro (by rw [HN.out]; rw [colB_2, inB_true e6 e7]; rfl)
                clear HN
                go_wp2
                go_roundw
                case rel => exact ⟨k + 1, _, rfl, by go_num, by omega, HV, HS2⟩
                case measure => simp [intOf]; omega
              · skip
                have HV : Hid (false = (ok0B t && (t.cols.take (k + 1)).all colP)) := Hid.intro (by rw [HN.out]; rw [colB_2, inB_false (by omega)]; rfl)
                clear HN
                go_wp2
                go_roundw
                case rel => exact ⟨k + 1, _, rfl, by go_num, by omega, HV, HS2⟩
                case measure => simp [intOf]; omega
            · skip
              have HV : Hid (false = (ok0B t && (t.cols.take (k + 1)).all colP)) := Hid.intro (by rw [HN.out]; rw [colB_2, inB_false (by omega)]; rfl)
              clear HN
              go_wp2
              go_roundw
              case rel => exact ⟨k + 1, _, rfl, by go_num, by omega, HV, HS2⟩
              case measure => simp [intOf]; omega
          have f2 : (kd == 2) = false := beq_eq_false_iff_ne.2 e5
          have HV : Hid (false = (ok0B t && (t.cols.take (k + 1)).all colP)) := Hid.intro (by rw [HN.out]; rw [colB_no nb e0 e2 e5]; rfl)
          clear HN
          go_wp2
          go_roundw
          case rel => exact ⟨k + 1, _, rfl, by go_num, by omega, HV, HS2⟩
          case measure => simp [intOf]; omega
      · obtain rfl : k = t.cols.length := by omega
        have HB1 : Hid (b = all1 t) := by
          have := HBk.out
          rw [List.take_length] at this
          exact this
        clear HBk hlt
        clear y0 y1 y2 y3 y4
        obtain ⟨y0, y1, y2, y3, y4⟩ := HSr.out.at
        go_wp2_with fail
        clear y0 y1 y2 y3 y4
        go_loopg [5, 10, 11] t.rows.length (fun kx s i _ W => ∃ (r : Nat) (d : Bool), s = .bool d ∧ i = .int .i64 r ∧ r ≤ t.rows.length ∧ t.rows.length - r ≤ kx ∧ Hid (d = (all1 t && (t.rows.take r).all rowB)) ∧ Hid (St w w1.heap.size ac ar cc cr t W))
        case atStart => exact ⟨0, b, rfl, rfl, by omega, by omega, Hid.intro (by rw [HB1.out]; simp), HSr⟩
        case round =>
          obtain ⟨r, d, rfl, rfl, hr, hkx, HDk, HS3⟩ := hrel
          obtain ⟨y0, y1, y2, y3, y4⟩ := HS3.out.at
          clear HSr HB1
          by_cases hrl : r < t.rows.length
          · have hrl' : (r : Int) < (t.rows.length : Int) := by omega
            obtain ⟨g, off, cap', e', hc1, hc2, hbl, u, hu, hwh, hcs⟩ := At.get HS3.out.2.1.2 hrl
            simp only [Value.slice.injEq, true_and] at e'
            obtain ⟨rfl, rfl⟩ := e'
            unfold maxLen at hc2
            have HN : Hid ((all1 t && (t.rows.take (r + 1)).all rowB) = ((d && decide ((t.rows.getD r dR).cells.length ≤ 5)) && (t.rows.getD r dR).cells.all cB)) := by
              show _ = _
              rw [HDk.out, all_take_succ rowB dR t.rows hrl]
              simp only [rowB, Bool.and_assoc]
            generalize t.rows.getD r dR = x at hcs HN hwh
            obtain ⟨ca, ccp, rfl, hcm⟩ := At.form hcs
            unfold maxLen at hcm
            have HCS := Hid.intro hcs
            clear HDk hcs hwh
            go_upto_region 16 with fail
            go_cut [5] (fun s W => s = .bool (d && decide (x.cells.length ≤ 5)) ∧ W = wr)
            case first =>
              cases d with
              | false =>
                go_wp2_with fail
                go_meet
                case rel => exact ⟨rfl, rfl⟩
              | true =>
                have HE : Hid (decide ((x.cells.length : Int) ≤ 5) = (true && decide (x.cells.length ≤ 5))) := Hid.intro (by rw [Bool.true_and]; exact decide_eq_decide.2 (by omega))
                go_wp2_with fail
                go_meet
                case rel => exact ⟨vB HE.out, rfl⟩
            case rest =>
              obtain ⟨rfl, hwc⟩ := hcut
              have hwc' := hwc.symm
              clear hwc
              subst hwc'
              generalize (d && decide (x.cells.length ≤ 5)) = e0 at HN ⊢
              obtain ⟨wo, hwo⟩ : ∃ wo, wo = wr := ⟨_, rfl⟩
              subst hwo
              go_wp2_with fail
              clear y0 y1 y2 y3 y4
              go_loopw [5, 11] (fun s i W => ∃ (p : Nat) (f : Bool), s = .bool f ∧ i = .int .i64 p ∧ p ≤ x.cells.length ∧ Hid (f = (e0 && (x.cells.take p).all cB)) ∧ Hid (Below wo.heap.size wo W)) (fun _ i _ => x.cells.length - (intOf i).toNat)
              case atStart => exact ⟨0, e0, rfl, rfl, by omega, Hid.intro (by simp), Below.refl _ _⟩
              case round =>
                obtain ⟨p, f, rfl, rfl, hp, HFk, HBw⟩ := hrel
                obtain ⟨y0, y1, y2, y3, y4⟩ := (HS3.out.kept HBw.out).at
                have hu' : wr.cell? ⟨g, off + r * 2, none⟩ = some (.slice ca x.cells.length ccp) := (HBw.out.cell (p := ⟨g, off + r * 2, none⟩) hbl).trans hu
                by_cases hpl : p < x.cells.length
                · have hpl' : (p : Int) < (x.cells.length : Int) := by omega
                  obtain ⟨g2, off2, cap2, e2, hd1, hd2, hbl2, hy, hys⟩ := At.get (HCS.out.kept HBw.out) hpl
                  simp only [Value.slice.injEq, true_and] at e2
                  obtain ⟨rfl, rfl⟩ := e2
                  unfold maxLen at hd2
                  have HM : Hid ((e0 && (x.cells.take (p + 1)).all cB) = (f && cB (x.cells.getD p dC))) := by
                    show _ = _
                    rw [HFk.out, all_take_succ cB dC x.cells hpl, Bool.and_assoc]
                  generalize x.cells.getD p dC = y at hy hys HM
                  clear HFk
                  cases f with
                  | false =>
                    have HV : Hid (false = (e0 && (x.cells.take (p + 1)).all cB)) := Hid.intro (by rw [HM.out]; rfl)
                    clear HM hy
                    go_wp2
                    go_roundw
                    case rel => exact ⟨p + 1, false, rfl, by go_num, by omega, HV, HBw⟩
                    case measure => simp [intOf]; omega
                  | true =>
                    have HV : Hid (cB y = (e0 && (x.cells.take (p + 1)).all cB)) := Hid.intro (by rw [HM.out]; rfl)
                    obtain ⟨v0, v1, v2, v3, v4, v5, v6, v7, v8, v9, v10⟩ := hy
                    have KC : Hid (∀ W, Calls Try.prog 12 #[.agg #[.string y.s, .int .i64 y.c, .int .i64 y.r, .int .i64 y.a1, .int .i64 y.b1, .int .i64 y.a2, .int .i64 y.b2, .int .i64 y.a3, .int .i64 y.b3, .int .i64 y.a4, .int .i64 y.b4]] W fun e w' => e = .returned (.bool (cB y)) ∧ Below W.heap.size W w') := fun W => implCellOk y.s y.c y.r y.a1 y.b1 y.a2 y.b2 y.a3 y.b3 y.a4 y.b4 W hys
                    clear HM hys
                    go_wp2_with fail
                    refine (KC.out _).mono ?_
                    rintro e w6 ⟨rfl, hb6⟩
                    have HB6 := Hid.intro (k_trans HBw.out hb6)
                    generalize cB y = cy at HV ⊢
                    clear hb6 v0 v1 v2 v3 v4 v5 v6 v7 v8 v9 v10 KC
                    go_wp2
                    go_roundw
                    case rel => exact ⟨p + 1, cy, rfl, by go_num, by omega, HV, HB6⟩
                    case measure => simp [intOf]; omega
                · obtain rfl : p = x.cells.length := by omega
                  have HV : Hid (f = (all1 t && (t.rows.take (r + 1)).all rowB)) := by
                    have := HFk.out
                    rw [List.take_length] at this
                    show _ = _
                    rw [this, HN.out]
                  have HS4 := Hid.intro (HS3.out.kept HBw.out)
                  clear HFk HN HS3 HBw HCS hpl hu
                  go_wp2
                  go_roundg (gk - 1)
                  case measure => omega
                  case rel => exact ⟨r + 1, f, rfl, by go_num, by omega, by omega, HV, HS4⟩
          · obtain rfl : r = t.rows.length := by omega
            have hd : d = tblB t := by
              have := HDk.out
              rw [List.take_length, all_eq] at this
              exact this
            have KI := Hid.intro (fun (W : World) (hb : Below wr.heap.size wr W) => implTblOk ac ar cc cr t W (HS3.out.kept hb).2.1.1 (HS3.out.kept hb).2.1.2)
            have KS := Hid.intro (fun (W : World) (hb : Below wr.heap.size wr W) => specTblOk ac ar cc cr t W (HS3.out.kept hb).2.1.1 (HS3.out.kept hb).2.1.2)
            rw [← hd] at KI KS
            have KD := Hid.intro (fun (W : World) (g : Nat) (hg : W.heap[g]? = some (.cells #[.slice none 0 0, .bool false] 40)) => implTblOk none (some ⟨g, 0, none⟩) 0 1 ⟨[], 0, 0, [dR], 0⟩ W (z := 0) ⟨none, 0, rfl, by simp, by simp, fun i hi => by simp at hi⟩ (one_at hg))
            rw [tblB_dflt] at KD
            have HSA := Hid.intro (fun (W : World) (hb : Below wr.heap.size wr W) => (HS3.out.kept hb).at)
            have HW0 := Hid.intro HS3.out.1
            clear HDk hd HS3 hrl
            go_wp2_with fail
            refine wp_region_inv2 (okJ wr (.agg #[.slice ac t.cols.length cc, .int .i64 t.head, .int .i64 t.foot, .slice ar t.rows.length cr, .int .i64 t.gap]) d (fun v2 v156 v157 v158 v159 v160 v161 v162 v163 v164 v165 v166 v167 v168 v169 v170 v171 v172 => ⟨#[.slice A len cap, undef, v2, .pointer (some ⟨w1.heap.size, 0, none⟩), .int .i64 (t.rows.length : Int), .bool d, .int .i64 (t.cols.length : Int), u7, u8, u9, .int .i64 (t.rows.length : Int), u11, u12, u13, u14, u15, u16, u17, u18, u19, u20, u21, u22, u23, u24, u25, u26, u27, u28, u29, u30, u31, u32, u33, u34, u35, u36, u37, u38, u39, u40, u41, u42, u43, u44, u45, u46, u47, u48, u49, u50, u51, u52, u53, u54, u55, u56, u57, u58, u59, u60, .int .i64 (t.cols.length : Int), .pointer (some ⟨w1.heap.size, 0, none⟩), .slice ac t.cols.length cc, .int .i64 (t.cols.length : Int), .bool false, u66, u67, u68, u69, u70, u71, u72, u73, u74, u75, u76, u77, u78, u79, u80, u81, u82, u83, u84, u85, u86, u87, u88, u89, u90, u91, u92, u93, u94, u95, u96, u97, u98, u99, u100, u101, u102, u103, u104, u105, u106, u107, u108, u109, u110, u111, u112, u113, u114, u115, .int .i64 (t.rows.length : Int), .int .i64 (t.rows.length : Int), .bool false, u119, u120, u121, u122, u123, u124, u125, u126, u127, u128, u129, u130, u131, u132, u133, u134, u135, u136, u137, u138, u139, u140, u141, u142, u143, u144, u145, u146, u147, u148, u149, u150, u151, u152, u153, u154, u155, v156, v157, v158, v159, v160, v161, v162, v163, v164, v165, v166, v167, v168, v169, v170, v171, v172], []⟩)) (by kernel_rfl) (by kernel_rfl) ?hs ?hd ?h0
            case h0 => exact ⟨_, _, _, _, _, _, _, _, _, _, _, _, _, _, _, _, _, _, rfl, ⟨(fun h => by cases h), (fun h => by cases h), (fun h => by cases h), (fun h => by cases h), (fun h => by cases h), (fun h => by cases h), (fun h => by cases h), (fun h => by cases h), (fun h => by cases h), (fun h => by cases h), (fun h => by cases h), (fun h => by cases h), (fun h => by cases h), (fun h => by cases h), (fun h => by cases h), (fun h => by cases h), (fun h => by cases h), (fun h => by cases h), k_drew (Below.refl _ _)⟩⟩
            case hs =>
              rename_i K0 hK0
              clear hK0
              intro L a W i o hJ _ ho hLi haft K hK
              obtain ⟨v2, v156, v157, v158, v159, v160, v161, v162, v163, v164, v165, v166, v167, v168, v169, v170, v171, v172, ha, J⟩ := hJ
              dsimp only at ha
              subst ha
              have hi : i < 18 := by
                have := (Array.getElem?_eq_some_iff.1 ho).1
                simpa using this
              rcases (by omega : i = 0 ∨ i = 1 ∨ i = 2 ∨ i = 3 ∨ i = 4 ∨ i = 5 ∨ i = 6 ∨ i = 7 ∨ i = 8 ∨ i = 9 ∨ i = 10 ∨ i = 11 ∨ i = 12 ∨ i = 13 ∨ i = 14 ∨ i = 15 ∨ i = 16 ∨ i = 17) with rfl | rfl | rfl | rfl | rfl | rfl | rfl | rfl | rfl | rfl | rfl | rfl | rfl | rfl | rfl | rfl | rfl | rfl
              all_goals
                simp only [List.getElem?_toArray, List.getElem?_cons_zero, List.getElem?_cons_succ, Option.some.injEq] at ho
                subst ho
                clear hi y0 y1 y2 y3 y4
              · skip
                obtain ⟨q0, q1, q2, q3, q4⟩ := HSA.out _ J.bk
                go_simp
                exact hK _ _ ⟨_, _, _, _, _, _, _, _, _, _, _, _, _, _, _, _, _, _, rfl, ⟨(fun _ => rfl), (fun h => J.f1 (by rwa [upd_ne rfl] at h)), (fun h => J.f2 (by rwa [upd_ne rfl] at h)), (fun h => J.f3 (by rwa [upd_ne rfl] at h)), (fun h => J.f4 (by rwa [upd_ne rfl] at h)), (fun h => J.f5 (by rwa [upd_ne rfl] at h)), (fun h => J.f6 (by rwa [upd_ne rfl] at h)), (fun h => J.f7 (by rwa [upd_ne rfl] at h)), (fun h => J.f8 (by rwa [upd_ne rfl] at h)), (fun h => J.f9 (by rwa [upd_ne rfl] at h)), (fun h => J.f10 (by rwa [upd_ne rfl] at h)), (fun h => J.f11 (by rwa [upd_ne rfl] at h)), (fun h => J.f12 (by rwa [upd_ne rfl] at h)), (fun h => J.f13 (by rwa [upd_ne rfl] at h)), (fun h => J.f14 (by rwa [upd_ne rfl] at h)), (fun h => J.f15 (by rwa [upd_ne rfl] at h)), (fun h => J.f16 (by rwa [upd_ne rfl] at h)), (fun h => J.f17 (by rwa [upd_ne rfl] at h)), J.bk⟩⟩
              · skip
                obtain rfl := J.f0 (haft ⟨0, .data⟩ (by simp) rfl)
                go_simp
                go_wp2_with (go_at_call 13; refine (KI.out _ J.bk).mono ?_; rintro e W2 ⟨rfl, hb⟩)
                exact ⟨_, _, _, _, _, _, _, _, _, _, _, _, _, _, _, _, _, _, rfl, ⟨(fun h => J.f0 (by rwa [upd_ne rfl] at h)), (fun _ => rfl), (fun h => J.f2 (by rwa [upd_ne rfl] at h)), (fun h => J.f3 (by rwa [upd_ne rfl] at h)), (fun h => J.f4 (by rwa [upd_ne rfl] at h)), (fun h => J.f5 (by rwa [upd_ne rfl] at h)), (fun h => J.f6 (by rwa [upd_ne rfl] at h)), (fun h => J.f7 (by rwa [upd_ne rfl] at h)), (fun h => J.f8 (by rwa [upd_ne rfl] at h)), (fun h => J.f9 (by rwa [upd_ne rfl] at h)), (fun h => J.f10 (by rwa [upd_ne rfl] at h)), (fun h => J.f11 (by rwa [upd_ne rfl] at h)), (fun h => J.f12 (by rwa [upd_ne rfl] at h)), (fun h => by obtain ⟨g, e, h1⟩ := J.f13 (by rwa [upd_ne rfl] at h); exact ⟨g, e, blk_kept h1 hb⟩), (fun h => by obtain ⟨g, e, h1⟩ := J.f14 (by rwa [upd_ne rfl] at h); exact ⟨g, e, blk_kept h1 hb⟩), (fun h => J.f15 (by rwa [upd_ne rfl] at h)), (fun h => J.f16 (by rwa [upd_ne rfl] at h)), (fun h => J.f17 (by rwa [upd_ne rfl] at h)), k_trans J.bk hb⟩⟩
              · skip
                go_simp
                exact hK _ _ ⟨_, _, _, _, _, _, _, _, _, _, _, _, _, _, _, _, _, _, rfl, ⟨(fun h => J.f0 (by rwa [upd_ne rfl] at h)), (fun h => J.f1 (by rwa [upd_ne rfl] at h)), (fun _ => rfl), (fun h => J.f3 (by rwa [upd_ne rfl] at h)), (fun h => J.f4 (by rwa [upd_ne rfl] at h)), (fun h => J.f5 (by rwa [upd_ne rfl] at h)), (fun h => J.f6 (by rwa [upd_ne rfl] at h)), (fun h => J.f7 (by rwa [upd_ne rfl] at h)), (fun h => J.f8 (by rwa [upd_ne rfl] at h)), (fun h => J.f9 (by rwa [upd_ne rfl] at h)), (fun h => J.f10 (by rwa [upd_ne rfl] at h)), (fun h => J.f11 (by rwa [upd_ne rfl] at h)), (fun h => J.f12 (by rwa [upd_ne rfl] at h)), (fun h => J.f13 (by rwa [upd_ne rfl] at h)), (fun h => J.f14 (by rwa [upd_ne rfl] at h)), (fun h => J.f15 (by rwa [upd_ne rfl] at h)), (fun h => J.f16 (by rwa [upd_ne rfl] at h)), (fun h => J.f17 (by rwa [upd_ne rfl] at h)), J.bk⟩⟩
              · skip
                obtain rfl := J.f1 (haft ⟨1, .data⟩ (by simp) rfl)
                obtain rfl := J.f2 (haft ⟨2, .data⟩ (by simp) rfl)
                go_simp
                exact hK _ _ ⟨_, _, _, _, _, _, _, _, _, _, _, _, _, _, _, _, _, _, rfl, ⟨(fun h => J.f0 (by rwa [upd_ne rfl] at h)), (fun h => J.f1 (by rwa [upd_ne rfl] at h)), (fun h => J.f2 (by rwa [upd_ne rfl] at h)), (fun _ => rfl), (fun h => J.f4 (by rwa [upd_ne rfl] at h)), (fun h => J.f5 (by rwa [upd_ne rfl] at h)), (fun h => J.f6 (by rwa [upd_ne rfl] at h)), (fun h => J.f7 (by rwa [upd_ne rfl] at h)), (fun h => J.f8 (by rwa [upd_ne rfl] at h)), (fun h => J.f9 (by rwa [upd_ne rfl] at h)), (fun h => J.f10 (by rwa [upd_ne rfl] at h)), (fun h => J.f11 (by rwa [upd_ne rfl] at h)), (fun h => J.f12 (by rwa [upd_ne rfl] at h)), (fun h => J.f13 (by rwa [upd_ne rfl] at h)), (fun h => J.f14 (by rwa [upd_ne rfl] at h)), (fun h => J.f15 (by rwa [upd_ne rfl] at h)), (fun h => J.f16 (by rwa [upd_ne rfl] at h)), (fun h => J.f17 (by rwa [upd_ne rfl] at h)), J.bk⟩⟩
              · skip
                obtain rfl := J.f3 (haft ⟨3, .data⟩ (by simp) rfl)
                go_simp
                exact hK _ _ ⟨_, _, _, _, _, _, _, _, _, _, _, _, _, _, _, _, _, _, rfl, ⟨(fun h => J.f0 (by rwa [upd_ne rfl] at h)), (fun h => J.f1 (by rwa [upd_ne rfl] at h)), (fun h => J.f2 (by rwa [upd_ne rfl] at h)), (fun h => J.f3 (by rwa [upd_ne rfl] at h)), (fun _ => rfl), (fun h => J.f5 (by rwa [upd_ne rfl] at h)), (fun h => J.f6 (by rwa [upd_ne rfl] at h)), (fun h => J.f7 (by rwa [upd_ne rfl] at h)), (fun h => J.f8 (by rwa [upd_ne rfl] at h)), (fun h => J.f9 (by rwa [upd_ne rfl] at h)), (fun h => J.f10 (by rwa [upd_ne rfl] at h)), (fun h => J.f11 (by rwa [upd_ne rfl] at h)), (fun h => J.f12 (by rwa [upd_ne rfl] at h)), (fun h => J.f13 (by rwa [upd_ne rfl] at h)), (fun h => J.f14 (by rwa [upd_ne rfl] at h)), (fun h => J.f15 (by rwa [upd_ne rfl] at h)), (fun h => J.f16 (by rwa [upd_ne rfl] at h)), (fun h => J.f17 (by rwa [upd_ne rfl] at h)), J.bk⟩⟩
              · skip
                obtain rfl := J.f4 (haft ⟨4, .guard⟩ (by simp) rfl)
                obtain ⟨q0, q1, q2, q3, q4⟩ := HSA.out _ J.bk
                go_simp
                exact hK _ _ ⟨_, _, _, _, _, _, _, _, _, _, _, _, _, _, _, _, _, _, rfl, ⟨(fun h => J.f0 (by rwa [upd_ne rfl] at h)), (fun h => J.f1 (by rwa [upd_ne rfl] at h)), (fun h => J.f2 (by rwa [upd_ne rfl] at h)), (fun h => J.f3 (by rwa [upd_ne rfl] at h)), (fun h => J.f4 (by rwa [upd_ne rfl] at h)), (fun _ => rfl), (fun h => J.f6 (by rwa [upd_ne rfl] at h)), (fun h => J.f7 (by rwa [upd_ne rfl] at h)), (fun h => J.f8 (by rwa [upd_ne rfl] at h)), (fun h => J.f9 (by rwa [upd_ne rfl] at h)), (fun h => J.f10 (by rwa [upd_ne rfl] at h)), (fun h => J.f11 (by rwa [upd_ne rfl] at h)), (fun h => J.f12 (by rwa [upd_ne rfl] at h)), (fun h => J.f13 (by rwa [upd_ne rfl] at h)), (fun h => J.f14 (by rwa [upd_ne rfl] at h)), (fun h => J.f15 (by rwa [upd_ne rfl] at h)), (fun h => J.f16 (by rwa [upd_ne rfl] at h)), (fun h => J.f17 (by rwa [upd_ne rfl] at h)), J.bk⟩⟩
              · skip
                obtain rfl := J.f4 (haft ⟨4, .guard⟩ (by simp) rfl)
                obtain rfl := J.f5 (haft ⟨5, .data⟩ (by simp) rfl)
                go_simp
                go_wp2_with (go_at_call 13; refine (KI.out _ J.bk).mono ?_; rintro e W2 ⟨rfl, hb⟩)
                exact ⟨_, _, _, _, _, _, _, _, _, _, _, _, _, _, _, _, _, _, rfl, ⟨(fun h => J.f0 (by rwa [upd_ne rfl] at h)), (fun h => J.f1 (by rwa [upd_ne rfl] at h)), (fun h => J.f2 (by rwa [upd_ne rfl] at h)), (fun h => J.f3 (by rwa [upd_ne rfl] at h)), (fun h => J.f4 (by rwa [upd_ne rfl] at h)), (fun h => J.f5 (by rwa [upd_ne rfl] at h)), (fun _ => rfl), (fun h => J.f7 (by rwa [upd_ne rfl] at h)), (fun h => J.f8 (by rwa [upd_ne rfl] at h)), (fun h => J.f9 (by rwa [upd_ne rfl] at h)), (fun h => J.f10 (by rwa [upd_ne rfl] at h)), (fun h => J.f11 (by rwa [upd_ne rfl] at h)), (fun h => J.f12 (by rwa [upd_ne rfl] at h)), (fun h => by obtain ⟨g, e, h1⟩ := J.f13 (by rwa [upd_ne rfl] at h); exact ⟨g, e, blk_kept h1 hb⟩), (fun h => by obtain ⟨g, e, h1⟩ := J.f14 (by rwa [upd_ne rfl] at h); exact ⟨g, e, blk_kept h1 hb⟩), (fun h => J.f15 (by rwa [upd_ne rfl] at h)), (fun h => J.f16 (by rwa [upd_ne rfl] at h)), (fun h => J.f17 (by rwa [upd_ne rfl] at h)), k_trans J.bk hb⟩⟩
              · skip
                obtain rfl := J.f4 (haft ⟨4, .guard⟩ (by simp) rfl)
                obtain ⟨q0, q1, q2, q3, q4⟩ := HSA.out _ J.bk
                go_simp
                exact hK _ _ ⟨_, _, _, _, _, _, _, _, _, _, _, _, _, _, _, _, _, _, rfl, ⟨(fun h => J.f0 (by rwa [upd_ne rfl] at h)), (fun h => J.f1 (by rwa [upd_ne rfl] at h)), (fun h => J.f2 (by rwa [upd_ne rfl] at h)), (fun h => J.f3 (by rwa [upd_ne rfl] at h)), (fun h => J.f4 (by rwa [upd_ne rfl] at h)), (fun h => J.f5 (by rwa [upd_ne rfl] at h)), (fun h => J.f6 (by rwa [upd_ne rfl] at h)), (fun _ => rfl), (fun h => J.f8 (by rwa [upd_ne rfl] at h)), (fun h => J.f9 (by rwa [upd_ne rfl] at h)), (fun h => J.f10 (by rwa [upd_ne rfl] at h)), (fun h => J.f11 (by rwa [upd_ne rfl] at h)), (fun h => J.f12 (by rwa [upd_ne rfl] at h)), (fun h => J.f13 (by rwa [upd_ne rfl] at h)), (fun h => J.f14 (by rwa [upd_ne rfl] at h)), (fun h => J.f15 (by rwa [upd_ne rfl] at h)), (fun h => J.f16 (by rwa [upd_ne rfl] at h)), (fun h => J.f17 (by rwa [upd_ne rfl] at h)), J.bk⟩⟩
              · skip
                obtain rfl := J.f4 (haft ⟨4, .guard⟩ (by simp) rfl)
                obtain rfl := J.f7 (haft ⟨7, .data⟩ (by simp) rfl)
                go_simp
                go_wp2_with (go_at_call 14; refine (KS.out _ J.bk).mono ?_; rintro e W2 ⟨rfl, hb⟩)
                exact ⟨_, _, _, _, _, _, _, _, _, _, _, _, _, _, _, _, _, _, rfl, ⟨(fun h => J.f0 (by rwa [upd_ne rfl] at h)), (fun h => J.f1 (by rwa [upd_ne rfl] at h)), (fun h => J.f2 (by rwa [upd_ne rfl] at h)), (fun h => J.f3 (by rwa [upd_ne rfl] at h)), (fun h => J.f4 (by rwa [upd_ne rfl] at h)), (fun h => J.f5 (by rwa [upd_ne rfl] at h)), (fun h => J.f6 (by rwa [upd_ne rfl] at h)), (fun h => J.f7 (by rwa [upd_ne rfl] at h)), (fun _ => rfl), (fun h => J.f9 (by rwa [upd_ne rfl] at h)), (fun h => J.f10 (by rwa [upd_ne rfl] at h)), (fun h => J.f11 (by rwa [upd_ne rfl] at h)), (fun h => J.f12 (by rwa [upd_ne rfl] at h)), (fun h => by obtain ⟨g, e, h1⟩ := J.f13 (by rwa [upd_ne rfl] at h); exact ⟨g, e, blk_kept h1 hb⟩), (fun h => by obtain ⟨g, e, h1⟩ := J.f14 (by rwa [upd_ne rfl] at h); exact ⟨g, e, blk_kept h1 hb⟩), (fun h => J.f15 (by rwa [upd_ne rfl] at h)), (fun h => J.f16 (by rwa [upd_ne rfl] at h)), (fun h => J.f17 (by rwa [upd_ne rfl] at h)), k_trans J.bk hb⟩⟩
              · skip
                obtain rfl := J.f4 (haft ⟨4, .guard⟩ (by simp) rfl)
                obtain rfl := J.f6 (haft ⟨6, .data⟩ (by simp) rfl)
                obtain rfl := J.f8 (haft ⟨8, .data⟩ (by simp) rfl)
                go_simp
                exact hK _ _ ⟨_, _, _, _, _, _, _, _, _, _, _, _, _, _, _, _, _, _, rfl, ⟨(fun h => J.f0 (by rwa [upd_ne rfl] at h)), (fun h => J.f1 (by rwa [upd_ne rfl] at h)), (fun h => J.f2 (by rwa [upd_ne rfl] at h)), (fun h => J.f3 (by rwa [upd_ne rfl] at h)), (fun h => J.f4 (by rwa [upd_ne rfl] at h)), (fun h => J.f5 (by rwa [upd_ne rfl] at h)), (fun h => J.f6 (by rwa [upd_ne rfl] at h)), (fun h => J.f7 (by rwa [upd_ne rfl] at h)), (fun h => J.f8 (by rwa [upd_ne rfl] at h)), (fun _ => rfl), (fun h => J.f10 (by rwa [upd_ne rfl] at h)), (fun h => J.f11 (by rwa [upd_ne rfl] at h)), (fun h => J.f12 (by rwa [upd_ne rfl] at h)), (fun h => J.f13 (by rwa [upd_ne rfl] at h)), (fun h => J.f14 (by rwa [upd_ne rfl] at h)), (fun h => J.f15 (by rwa [upd_ne rfl] at h)), (fun h => J.f16 (by rwa [upd_ne rfl] at h)), (fun h => J.f17 (by rwa [upd_ne rfl] at h)), J.bk⟩⟩
              · skip
                obtain rfl := J.f4 (haft ⟨4, .data⟩ (by simp) rfl)
                obtain rfl := J.f9 (haft ⟨9, .data⟩ (by simp) rfl)
                go_simp
                exact hK _ _ ⟨_, _, _, _, _, _, _, _, _, _, _, _, _, _, _, _, _, _, rfl, ⟨(fun h => J.f0 (by rwa [upd_ne rfl] at h)), (fun h => J.f1 (by rwa [upd_ne rfl] at h)), (fun h => J.f2 (by rwa [upd_ne rfl] at h)), (fun h => J.f3 (by rwa [upd_ne rfl] at h)), (fun h => J.f4 (by rwa [upd_ne rfl] at h)), (fun h => J.f5 (by rwa [upd_ne rfl] at h)), (fun h => J.f6 (by rwa [upd_ne rfl] at h)), (fun h => J.f7 (by rwa [upd_ne rfl] at h)), (fun h => J.f8 (by rwa [upd_ne rfl] at h)), (fun h => J.f9 (by rwa [upd_ne rfl] at h)), (fun _ => rfl), (fun h => J.f11 (by rwa [upd_ne rfl] at h)), (fun h => J.f12 (by rwa [upd_ne rfl] at h)), (fun h => J.f13 (by rwa [upd_ne rfl] at h)), (fun h => J.f14 (by rwa [upd_ne rfl] at h)), (fun h => J.f15 (by rwa [upd_ne rfl] at h)), (fun h => J.f16 (by rwa [upd_ne rfl] at h)), (fun h => J.f17 (by rwa [upd_ne rfl] at h)), J.bk⟩⟩
              · skip
                obtain rfl := J.f10 (haft ⟨10, .data⟩ (by simp) rfl)
                go_simp
                exact hK _ _ ⟨_, _, _, _, _, _, _, _, _, _, _, _, _, _, _, _, _, _, rfl, ⟨(fun h => J.f0 (by rwa [upd_ne rfl] at h)), (fun h => J.f1 (by rwa [upd_ne rfl] at h)), (fun h => J.f2 (by rwa [upd_ne rfl] at h)), (fun h => J.f3 (by rwa [upd_ne rfl] at h)), (fun h => J.f4 (by rwa [upd_ne rfl] at h)), (fun h => J.f5 (by rwa [upd_ne rfl] at h)), (fun h => J.f6 (by rwa [upd_ne rfl] at h)), (fun h => J.f7 (by rwa [upd_ne rfl] at h)), (fun h => J.f8 (by rwa [upd_ne rfl] at h)), (fun h => J.f9 (by rwa [upd_ne rfl] at h)), (fun h => J.f10 (by rwa [upd_ne rfl] at h)), (fun _ => rfl), (fun h => J.f12 (by rwa [upd_ne rfl] at h)), (fun h => J.f13 (by rwa [upd_ne rfl] at h)), (fun h => J.f14 (by rwa [upd_ne rfl] at h)), (fun h => J.f15 (by rwa [upd_ne rfl] at h)), (fun h => J.f16 (by rwa [upd_ne rfl] at h)), (fun h => J.f17 (by rwa [upd_ne rfl] at h)), J.bk⟩⟩
              · skip
                obtain rfl := J.f11 (haft ⟨11, .guard⟩ (by simp) rfl)
                go_simp
                exact hK _ _ ⟨_, _, _, _, _, _, _, _, _, _, _, _, _, _, _, _, _, _, rfl, ⟨(fun h => J.f0 (by rwa [upd_ne rfl] at h)), (fun h => J.f1 (by rwa [upd_ne rfl] at h)), (fun h => J.f2 (by rwa [upd_ne rfl] at h)), (fun h => J.f3 (by rwa [upd_ne rfl] at h)), (fun h => J.f4 (by rwa [upd_ne rfl] at h)), (fun h => J.f5 (by rwa [upd_ne rfl] at h)), (fun h => J.f6 (by rwa [upd_ne rfl] at h)), (fun h => J.f7 (by rwa [upd_ne rfl] at h)), (fun h => J.f8 (by rwa [upd_ne rfl] at h)), (fun h => J.f9 (by rwa [upd_ne rfl] at h)), (fun h => J.f10 (by rwa [upd_ne rfl] at h)), (fun h => J.f11 (by rwa [upd_ne rfl] at h)), (fun _ => rfl), (fun h => J.f13 (by rwa [upd_ne rfl] at h)), (fun h => J.f14 (by rwa [upd_ne rfl] at h)), (fun h => J.f15 (by rwa [upd_ne rfl] at h)), (fun h => J.f16 (by rwa [upd_ne rfl] at h)), (fun h => J.f17 (by rwa [upd_ne rfl] at h)), J.bk⟩⟩
              · skip
                obtain rfl := J.f11 (haft ⟨11, .guard⟩ (by simp) rfl)
                obtain rfl := J.f12 (haft ⟨12, .data⟩ (by simp) rfl)
                go_simp
                exact hK _ _ ⟨_, _, _, _, _, _, _, _, _, _, _, _, _, _, _, _, _, _, rfl, ⟨(fun h => J.f0 (by rwa [upd_ne rfl] at h)), (fun h => J.f1 (by rwa [upd_ne rfl] at h)), (fun h => J.f2 (by rwa [upd_ne rfl] at h)), (fun h => J.f3 (by rwa [upd_ne rfl] at h)), (fun h => J.f4 (by rwa [upd_ne rfl] at h)), (fun h => J.f5 (by rwa [upd_ne rfl] at h)), (fun h => J.f6 (by rwa [upd_ne rfl] at h)), (fun h => J.f7 (by rwa [upd_ne rfl] at h)), (fun h => J.f8 (by rwa [upd_ne rfl] at h)), (fun h => J.f9 (by rwa [upd_ne rfl] at h)), (fun h => J.f10 (by rwa [upd_ne rfl] at h)), (fun h => J.f11 (by rwa [upd_ne rfl] at h)), (fun h => J.f12 (by rwa [upd_ne rfl] at h)), (fun _ => ⟨W.heap.size, rfl, newestB _ _⟩), (fun h => by obtain ⟨g, e, h1⟩ := J.f14 (by rwa [upd_ne rfl] at h); exact ⟨g, e, blk_kept h1 (k_alloc (Below.refl _ _) _)⟩), (fun h => J.f15 (by rwa [upd_ne rfl] at h)), (fun h => J.f16 (by rwa [upd_ne rfl] at h)), (fun h => J.f17 (by rwa [upd_ne rfl] at h)), k_alloc J.bk _⟩⟩
              · skip
                obtain rfl := J.f11 (haft ⟨11, .guard⟩ (by simp) rfl)
                obtain ⟨g, rfl, hg⟩ := J.f13 (haft ⟨13, .data⟩ (by simp) rfl)
                go_simp
                exact hK _ _ ⟨_, _, _, _, _, _, _, _, _, _, _, _, _, _, _, _, _, _, rfl, ⟨(fun h => J.f0 (by rwa [upd_ne rfl] at h)), (fun h => J.f1 (by rwa [upd_ne rfl] at h)), (fun h => J.f2 (by rwa [upd_ne rfl] at h)), (fun h => J.f3 (by rwa [upd_ne rfl] at h)), (fun h => J.f4 (by rwa [upd_ne rfl] at h)), (fun h => J.f5 (by rwa [upd_ne rfl] at h)), (fun h => J.f6 (by rwa [upd_ne rfl] at h)), (fun h => J.f7 (by rwa [upd_ne rfl] at h)), (fun h => J.f8 (by rwa [upd_ne rfl] at h)), (fun h => J.f9 (by rwa [upd_ne rfl] at h)), (fun h => J.f10 (by rwa [upd_ne rfl] at h)), (fun h => J.f11 (by rwa [upd_ne rfl] at h)), (fun h => J.f12 (by rwa [upd_ne rfl] at h)), (fun h => J.f13 (by rwa [upd_ne rfl] at h)), (fun _ => ⟨g, rfl, hg⟩), (fun h => J.f15 (by rwa [upd_ne rfl] at h)), (fun h => J.f16 (by rwa [upd_ne rfl] at h)), (fun h => J.f17 (by rwa [upd_ne rfl] at h)), J.bk⟩⟩
              · skip
                obtain rfl := J.f11 (haft ⟨11, .guard⟩ (by simp) rfl)
                obtain ⟨g, rfl, hg⟩ := J.f14 (haft ⟨14, .data⟩ (by simp) rfl)
                go_simp
                go_wp2_with (go_at_call 13; refine (KD.out _ g hg).mono ?_; rintro e W2 ⟨rfl, hb⟩)
                exact ⟨_, _, _, _, _, _, _, _, _, _, _, _, _, _, _, _, _, _, rfl, ⟨(fun h => J.f0 (by rwa [upd_ne rfl] at h)), (fun h => J.f1 (by rwa [upd_ne rfl] at h)), (fun h => J.f2 (by rwa [upd_ne rfl] at h)), (fun h => J.f3 (by rwa [upd_ne rfl] at h)), (fun h => J.f4 (by rwa [upd_ne rfl] at h)), (fun h => J.f5 (by rwa [upd_ne rfl] at h)), (fun h => J.f6 (by rwa [upd_ne rfl] at h)), (fun h => J.f7 (by rwa [upd_ne rfl] at h)), (fun h => J.f8 (by rwa [upd_ne rfl] at h)), (fun h => J.f9 (by rwa [upd_ne rfl] at h)), (fun h => J.f10 (by rwa [upd_ne rfl] at h)), (fun h => J.f11 (by rwa [upd_ne rfl] at h)), (fun h => J.f12 (by rwa [upd_ne rfl] at h)), (fun h => by obtain ⟨g, e, h1⟩ := J.f13 (by rwa [upd_ne rfl] at h); exact ⟨g, e, blk_kept h1 hb⟩), (fun h => by obtain ⟨g, e, h1⟩ := J.f14 (by rwa [upd_ne rfl] at h); exact ⟨g, e, blk_kept h1 hb⟩), (fun _ => rfl), (fun h => J.f16 (by rwa [upd_ne rfl] at h)), (fun h => J.f17 (by rwa [upd_ne rfl] at h)), k_trans J.bk hb⟩⟩
              · skip
                obtain rfl := J.f11 (haft ⟨11, .data⟩ (by simp) rfl)
                obtain rfl := J.f15 (haft ⟨15, .data⟩ (by simp) rfl)
                go_simp
                exact hK _ _ ⟨_, _, _, _, _, _, _, _, _, _, _, _, _, _, _, _, _, _, rfl, ⟨(fun h => J.f0 (by rwa [upd_ne rfl] at h)), (fun h => J.f1 (by rwa [upd_ne rfl] at h)), (fun h => J.f2 (by rwa [upd_ne rfl] at h)), (fun h => J.f3 (by rwa [upd_ne rfl] at h)), (fun h => J.f4 (by rwa [upd_ne rfl] at h)), (fun h => J.f5 (by rwa [upd_ne rfl] at h)), (fun h => J.f6 (by rwa [upd_ne rfl] at h)), (fun h => J.f7 (by rwa [upd_ne rfl] at h)), (fun h => J.f8 (by rwa [upd_ne rfl] at h)), (fun h => J.f9 (by rwa [upd_ne rfl] at h)), (fun h => J.f10 (by rwa [upd_ne rfl] at h)), (fun h => J.f11 (by rwa [upd_ne rfl] at h)), (fun h => J.f12 (by rwa [upd_ne rfl] at h)), (fun h => J.f13 (by rwa [upd_ne rfl] at h)), (fun h => J.f14 (by rwa [upd_ne rfl] at h)), (fun h => J.f15 (by rwa [upd_ne rfl] at h)), (fun _ => rfl), (fun h => J.f17 (by rwa [upd_ne rfl] at h)), J.bk⟩⟩
              · skip
                obtain rfl := J.f16 (haft ⟨16, .data⟩ (by simp) rfl)
                go_simp
                exact hK _ _ ⟨_, _, _, _, _, _, _, _, _, _, _, _, _, _, _, _, _, _, rfl, ⟨(fun h => J.f0 (by rwa [upd_ne rfl] at h)), (fun h => J.f1 (by rwa [upd_ne rfl] at h)), (fun h => J.f2 (by rwa [upd_ne rfl] at h)), (fun h => J.f3 (by rwa [upd_ne rfl] at h)), (fun h => J.f4 (by rwa [upd_ne rfl] at h)), (fun h => J.f5 (by rwa [upd_ne rfl] at h)), (fun h => J.f6 (by rwa [upd_ne rfl] at h)), (fun h => J.f7 (by rwa [upd_ne rfl] at h)), (fun h => J.f8 (by rwa [upd_ne rfl] at h)), (fun h => J.f9 (by rwa [upd_ne rfl] at h)), (fun h => J.f10 (by rwa [upd_ne rfl] at h)), (fun h => J.f11 (by rwa [upd_ne rfl] at h)), (fun h => J.f12 (by rwa [upd_ne rfl] at h)), (fun h => J.f13 (by rwa [upd_ne rfl] at h)), (fun h => J.f14 (by rwa [upd_ne rfl] at h)), (fun h => J.f15 (by rwa [upd_ne rfl] at h)), (fun h => J.f16 (by rwa [upd_ne rfl] at h)), (fun _ => rfl), J.bk⟩⟩
            case hd =>
              rename_i K0 hK0
              intro L a W hJ hall
              obtain ⟨v2, v156, v157, v158, v159, v160, v161, v162, v163, v164, v165, v166, v167, v168, v169, v170, v171, v172, ha, J⟩ := hJ
              dsimp only at ha
              subst ha
              obtain rfl := J.f17 (hall 17 (by simp))
              have HBZ := Hid.intro (HW0.out.trans (J.bk.mono (by have := HW0.out.size; omega)))
              clear J hall y0 y1 y2 y3 y4
              refine hK0 _ _ ?_
              clear hK0
              go_wp2
              go_ret
              exact ⟨rfl, HBZ.out⟩

set_option maxRecDepth 100000 in
theorem lawTblOk (a : Option Addr) (len cap : Nat) (w : World) (h : IsCode w a len cap) :
    Calls Try.prog 4 #[.slice a len cap] w fun e w' => e = .returned (.bool true) ∧ Below w.heap.size w w' := by
  by_cases hl : len ≤ 1048576
  · exact lawTblOk_walk a len cap hl w h
  · have hl' : (1048576 : Int) < (len : Int) := by omega
    clear h
    go_enter Try.func4, Try.ntmps4
    go_wp2
    go_ret
    exact ⟨rfl, Below.refl _ _⟩
end Go.Proofs.Ytfkfgmfahoeaoam
