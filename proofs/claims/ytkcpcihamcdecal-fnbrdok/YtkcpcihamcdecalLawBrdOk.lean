/-
  PROVED HERE: the law FnBrdOk returns true at every code that lies in memory.
-/
import Derived.Test.YtkcpcihamcdecalDrawBrd
import Derived.Test.YtkcpcihamcdecalBrd
import Derived.Deep.RegionWith
import Derived.Deep.DeepCutAuto
namespace Go.Proofs.Ytkcpcihamcdecal
open Go.RowKit

theorem size_alloc' (w : World) (o : Obj) : (w.alloc o).heap.size = w.heap.size + 1 := by simp
theorem IsCode.kept {w w' : World} {a : Option Addr} {len cap : Nat} (h : IsCode w a len cap) (hb : Below w.heap.size w w') : IsCode w' a len cap := by
  obtain ⟨h1, h2, hc⟩ := h
  refine ⟨h1, h2, fun i hi => ?_⟩
  obtain ⟨b, off, z, e, l, c, z0, z1⟩ := hc i hi
  exact ⟨b, off, z, e, Nat.lt_of_lt_of_le l hb.size, (hb.cell (p := ⟨b, off + i, none⟩) l).trans c, z0, z1⟩

set_option maxRecDepth 100000 in
set_option maxHeartbeats 1000000 in
theorem drawBrdOk_any (a : Option Addr) (len cap : Nat) (w : World) (h : IsCode w a len cap) :
    Calls Try.prog 13 #[.slice a len cap] w fun e w' => ∃ x y : Int, e = .returned (.agg #[.int .i64 x, .int .i64 y]) ∧ Below w.heap.size w w' := by
  have HC := Hid.intro (h.kept (k_alloc (Below.refl _ _) (.cells #[.int .i64 0, .int .i64 0] 27)))
  clear h
  go_enter Try.func13, Try.ntmps13
  go_wp2_with fail
  refine (open_any _ _ _ _ HC.out).mono ?_
  rintro e w1 ⟨rfl, hR1, hb1⟩
  rw [size_alloc'] at hR1
  have A1 := Hid.intro ((hb1.block w.heap.size (by simp)).trans (newest _ _))
  have hz1 := hR1.lt
  go_wp2_with fail
  refine (l20Brd_any (w.heap.size + 1) 0 _ (by omega) _ hR1 (by omega)).mono ?_
  rintro e w2 ⟨x, y, rfl, hR2, hb2⟩
  have A2 := (hb2.block w.heap.size (by omega) (by omega)).trans A1.out
  obtain ⟨⟨a0, a1⟩, f0, f1⟩ := two_cells A2
  have HB : Hid (Below w.heap.size w w2) := (k_trans (k_alloc (Below.refl _ _) _) hb1).trans (hb2.below (by omega) (by omega))
  clear hb1 hb2 hR1 hR2 A1 A2 HC
  go_wp2
  exact bodyPost_ret (v := .agg #[.int .i64 x, .int .i64 y]) (by simp [results, Try.results13, go_sem, a0, a1]) rfl ⟨x, y, rfl, k_set (k_set HB.out (Nat.le_refl _) _) (Nat.le_refl _) _⟩

theorem ok00 : brdOkB 0 0 = true := by decide
def seenB (a : Int) : Bool := decide (1 ≤ a ∧ a ≤ 3)
def noneB (a : Int) : Bool := decide (a = 0 ∨ a = 4)
theorem brdOk_eq (a b : Int) : brdOkB a b = (seenB a && (decide (1 ≤ b) && decide (b ≤ 3)) || noneB a && (b == 0)) := by
  rw [Bool.eq_iff_iff]; simp [brdOkB, seenB, noneB]; omega
theorem b_class (b : Int) : (¬ 1 ≤ b ∧ b ≤ 3 ∧ (b == 0) = true) ∨ (¬ 1 ≤ b ∧ b ≤ 3 ∧ (b == 0) = false) ∨ (1 ≤ b ∧ b ≤ 3 ∧ (b == 0) = false) ∨ (1 ≤ b ∧ ¬ b ≤ 3 ∧ (b == 0) = false) := by
  simp only [beq_iff_eq, beq_eq_false_iff_ne, ne_eq]; omega
theorem vB {a b : Bool} (h : a = b) : Value.bool a = .bool b := by rw [h]

set_option maxRecDepth 100000 in
set_option maxHeartbeats 2000000 in
theorem lawBrd_walk (A : Option Addr) (len cap : Nat) (hlen : len ≤ 1048576) (w : World) (h : IsCode w A len cap) :
    Calls Try.prog 5 #[.slice A len cap] w fun e w' => e = .returned (.bool true) ∧ Below w.heap.size w w' := by
  have hv0 := ok00
  have hl : ¬ (1048576 : Int) < (len : Int) := by omega
  have HD := Hid.intro h
  clear h
  go_enter Try.func5, Try.ntmps5
  go_upto_region 4 with (go_at_call 13; refine (drawBrdOk_any _ _ _ _ HD.out).mono ?_; rintro e w' ⟨a, b, rfl, hb1⟩)
  have HB1 := Hid.intro hb1
  clear hb1
  go_cut [4] (fun s W => s = .bool (seenB a) ∧ W = w'.alloc (.cells #[.int .i64 a, .int .i64 b] 27))
  case first =>
    by_cases e1 : a = 1
    · subst e1
      go_wp2_with fail
      go_meet
      case rel => exact ⟨rfl, rfl⟩
    have f1 : (a == 1) = false := beq_eq_false_iff_ne.2 e1
    by_cases e2 : a = 2
    · subst e2
      go_wp2_with fail
      go_meet
      case rel => exact ⟨rfl, rfl⟩
    have f2 : (a == 2) = false := beq_eq_false_iff_ne.2 e2
    by_cases e3 : a = 3
    · subst e3
      go_wp2_with fail
      go_meet
      case rel => exact ⟨rfl, rfl⟩
    have f3 : (a == 3) = false := beq_eq_false_iff_ne.2 e3
    have HS : Hid (seenB a = false) := Hid.intro (by simp [seenB]; omega)
    clear e1 e2 e3
    go_wp2_with fail
    go_meet
    case rel => exact ⟨vB HS.out.symm, rfl⟩
  case rest =>
    obtain ⟨rfl, rfl⟩ := hcut
    go_upto_region 5 with fail
    go_cut [5] (fun s W => s = .bool (noneB a) ∧ W = w'.alloc (.cells #[.int .i64 a, .int .i64 b] 27))
    case first =>
      by_cases e1 : a = 0
      · subst e1
        go_wp2_with fail
        go_meet
        case rel => exact ⟨rfl, rfl⟩
      have f1 : (a == 0) = false := beq_eq_false_iff_ne.2 e1
      by_cases e2 : a = 4
      · subst e2
        go_wp2_with fail
        go_meet
        case rel => exact ⟨rfl, rfl⟩
      have f2 : (a == 4) = false := beq_eq_false_iff_ne.2 e2
      have HS : Hid (noneB a = false) := Hid.intro (by simp [noneB]; omega)
      clear e1 e2
      go_wp2_with fail
      go_meet
      case rel => exact ⟨vB HS.out.symm, rfl⟩
    case rest =>
      obtain ⟨rfl, rfl⟩ := hcut
      go_upto_region 6 with fail
      go_cut [4, 5, 6] (fun _ _ s W => s = .bool (brdOkB a b) ∧ W = w'.alloc (.cells #[.int .i64 a, .int .i64 b] 27))
      case first =>
        have HE := Hid.intro (brdOk_eq a b)
        cases hS : seenB a <;> cases hN : noneB a <;> rcases b_class b with ⟨h1, h3, h0⟩ | ⟨h1, h3, h0⟩ | ⟨h1, h3, h0⟩ | ⟨h1, h3, h0⟩
        all_goals
          have HF := HE.out
          rw [hS, hN, h0] at HF
          simp [h1, h3] at HF
          have HF := Hid.intro HF
          clear HE
          go_wp2_with fail
          go_meet
          case rel => exact ⟨vB HF.out.symm, rfl⟩
      case rest =>
        obtain ⟨rfl, rfl⟩ := hcut
        go_wp2_with fail
        go_region_with (first | (go_at_call 10; refine (implBrdOk _ _ _).mono ?_; rintro e w' ⟨rfl, rfl⟩) | (go_at_call 14; refine (specBrdOk _ _ _).mono ?_; rintro e w' ⟨rfl, rfl⟩))
        all_goals
          go_wp2
          go_ret
          exact ⟨rfl, by repeat (first | refine k_alloc ?_ _ | refine k_drew ?_ | exact HB1.out)⟩

set_option maxRecDepth 100000 in
theorem lawBrdOk (A : Option Addr) (len cap : Nat) (w : World) (h : IsCode w A len cap) :
    Calls Try.prog 5 #[.slice A len cap] w fun e w' => e = .returned (.bool true) ∧ Below w.heap.size w w' := by
  by_cases hbig : len ≤ 1048576
  · exact lawBrd_walk A len cap hbig w h
  · have hlen : len ≤ maxLen := Nat.le_trans h.1 h.2.1
    unfold maxLen at hlen
    clear h
    have hb : (1048576 : Int) < (len : Int) := by omega
    go_enter Try.func5, Try.ntmps5
    go_wp2
    go_ret
    exact ⟨rfl, Below.refl _ _⟩
end Go.Proofs.Ytkcpcihamcdecal
