/-
  PROVED HERE: what the program's PagRow and PagFirst answer of any pages in memory; nothing that was in memory is turned.
-/
import Derived.Test.YtfkkhfiiokhnaayPagHI
namespace Go.Proofs.Ytfkkhfiiokhnaay
open Go.RowKit

set_option maxRecDepth 100000 in
set_option maxHeartbeats 2000000 in
theorem implPagRow (v : Value) (pss : List (List PgS)) (row : Int) (w : World) {z : Nat} (h : PssAt w z v pss) :
    Calls Try.prog 22 #[v, .int .i64 row] w fun e w' => e = .returned (.int .i64 (rowP pss row)) ∧ Below w.heap.size w w' := by
  obtain ⟨a, cap, rfl, hlen⟩ := At.form h
  have H := Hid.intro h
  clear h
  go_enter Try.func22, Try.ntmps22
  go_wp2_with fail
  go_loopw [5, 12] (fun s i W => ∃ k : Nat, k ≤ pss.length ∧ i = .int .i64 k ∧ s = .int .i64 (wrap64 (rwPs pss row k)) ∧ Hid (Below w.heap.size w W)) (fun _ i _ => pss.length - (intOf i).toNat)
  case atStart => exact ⟨0, Nat.zero_le _, rfl, by simp [rwPs, W_eq], Below.refl _ _⟩
  case round =>
    obtain ⟨k, hk, rfl, rfl, HB⟩ := hrel
    by_cases hlt : k < pss.length
    · obtain ⟨b, off, cap', u, e', hc1, hc2, hbl, hu, hx⟩ := PssAt.get (H.out.kept HB.out) hlt
      simp only [Value.slice.injEq, true_and] at e'
      obtain ⟨rfl, rfl⟩ := e'
      have HE : Hid (rwPs pss row (k + 1) = rwPs pss row k + rwP (pss.getD k []) row (pss.getD k []).length) := rfl
      generalize pss.getD k [] = ps at hx HE
      generalize rwPs pss row k = s0 at HE ⊢
      obtain ⟨ua, ucap, rfl, hul⟩ := At.form hx
      have HX := Hid.intro hx
      unfold maxLen at hc2
      clear hx
      go_wp2_with fail
      go_loopw [5, 18] (fun s i W => ∃ j : Nat, j ≤ ps.length ∧ i = .int .i64 j ∧ s = .int .i64 (wrap64 (s0 + rwP ps row j)) ∧ Hid (Below wr.heap.size wr W)) (fun _ i _ => ps.length - (intOf i).toNat)
      case atStart => exact ⟨0, Nat.zero_le _, rfl, by simp [rwP], Below.refl _ _⟩
      case round =>
        rename World => w0
        rename World => w1
        obtain ⟨j, hj, rfl, rfl, HB2⟩ := hrel
        by_cases hlj : j < ps.length
        · obtain ⟨b2, off2, cap2, e2, hd1, hd2, hbl2, hy⟩ := At.get (HX.out.kept HB2.out) hlj
          simp only [Value.slice.injEq, true_and] at e2
          obtain ⟨rfl, rfl⟩ := e2
          unfold maxLen at hd2
          by_cases hr : (ps.getD j dP).r = row
          · have HS := Hid.intro (rw_impl s0 hr)
            have hr' : ((ps.getD j dP).r == row) = true := beq_iff_eq.2 hr
            clear hr
            generalize ps.getD j dP = x at hy HS hr'
            generalize wrap64 (s0 + rwP ps row j) = s at HS ⊢
            obtain ⟨x0, x1, x2⟩ := hy
            go_wp2_with fail
            refine (implLines _ _ _ _).mono ?_
            rintro e w3 ⟨rfl, hb3⟩
            have HB3 := Hid.intro (k_trans (k_alloc HB2.out _) hb3)
            clear hb3 x0 x1 x2
            generalize wrap64 (x.t - x.f) = y at HS ⊢
            go_wp2
            go_roundw
            case rel => exact ⟨j + 1, by omega, by go_num, by rw [← HS.out], HB3⟩
            case measure => simp [intOf]; omega
          · have HS := Hid.intro (rw_not hr)
            have hr' : ((ps.getD j dP).r == row) = false := beq_eq_false_iff_ne.2 hr
            clear hr
            generalize ps.getD j dP = x at hy hr'
            obtain ⟨x0, x1, x2⟩ := hy
            go_wp2
            go_roundw
            case rel => exact ⟨j + 1, by omega, by go_num, by rw [HS.out], k_alloc HB2.out _⟩
            case measure => simp [intOf]; omega
        · obtain rfl : j = ps.length := by omega
          have HB3 := Hid.intro (k_trans HB.out HB2.out)
          go_wp2
          go_roundw
          case rel => exact ⟨k + 1, by omega, by go_num, by rw [HE.out], HB3⟩
          case measure => simp [intOf]; omega
    · obtain rfl : k = pss.length := by omega
      go_wp2
      go_ret
      exact ⟨rfl, HB.out⟩

set_option maxRecDepth 100000 in
set_option maxHeartbeats 2000000 in
theorem implPagFirst (v : Value) (pss : List (List PgS)) (row : Int) (w : World) {z : Nat} (h : PssAt w z v pss) :
    Calls Try.prog 25 #[v, .int .i64 row] w fun e w' => e = .returned (.int .i64 (firstP pss row)) ∧ Below w.heap.size w w' := by
  obtain ⟨a, cap, rfl, hlen⟩ := At.form h
  have H := Hid.intro h
  clear h
  go_enter Try.func25, Try.ntmps25
  go_wp2_with fail
  go_loopw [11] (fun i W => ∃ k : Nat, k ≤ pss.length ∧ i = .int .i64 k ∧ Hid (∀ i, i < k → hasP row (pss.getD i []) = false) ∧ Hid (Below w.heap.size w W)) (fun i _ => pss.length - (intOf i).toNat)
  case atStart => exact ⟨0, Nat.zero_le _, rfl, fun i hi => absurd hi (Nat.not_lt_zero _), Below.refl _ _⟩
  case round =>
    obtain ⟨k, hk, rfl, HN, HB⟩ := hrel
    by_cases hlt : k < pss.length
    · obtain ⟨b, off, cap', u, e', hc1, hc2, hbl, hu, hx⟩ := PssAt.get (H.out.kept HB.out) hlt
      simp only [Value.slice.injEq, true_and] at e'
      obtain ⟨rfl, rfl⟩ := e'
      have HF := Hid.intro (fun hp => firstP_hit hlt HN.out hp)
      have HG : Hid (hasP row (pss.getD k []) = false → ∀ i, i < k + 1 → hasP row (pss.getD i []) = false) := fun hp => less_next HN.out hp
      generalize pss.getD k [] = ps at hx HF HG
      obtain ⟨ua, ucap, rfl, hul⟩ := At.form hx
      have HX := Hid.intro hx
      unfold maxLen at hc2
      clear hx
      go_wp2_with fail
      go_loopw [18] (fun i W => ∃ j : Nat, j ≤ ps.length ∧ i = .int .i64 j ∧ Hid (∀ i, i < j → ¬ (ps.getD i dP).r = row) ∧ Hid (Below wr.heap.size wr W)) (fun i _ => ps.length - (intOf i).toNat)
      case atStart => exact ⟨0, Nat.zero_le _, rfl, fun i hi => absurd hi (Nat.not_lt_zero _), Below.refl _ _⟩
      case round =>
        rename World => w0
        rename World => w1
        obtain ⟨j, hj, rfl, HN2, HB2⟩ := hrel
        by_cases hlj : j < ps.length
        · obtain ⟨b2, off2, cap2, e2, hd1, hd2, hbl2, hy⟩ := At.get (HX.out.kept HB2.out) hlj
          simp only [Value.slice.injEq, true_and] at e2
          obtain ⟨rfl, rfl⟩ := e2
          unfold maxLen at hd2
          by_cases hr : (ps.getD j dP).r = row
          · have HS := Hid.intro (HF.out (hasP_yes hlj hr))
            have hr' : ((ps.getD j dP).r == row) = true := beq_iff_eq.2 hr
            have HB3 := Hid.intro (k_trans HB.out HB2.out)
            clear hr
            generalize ps.getD j dP = x at hy hr'
            obtain ⟨x0, x1, x2⟩ := hy
            go_wp2
            go_ret
            exact ⟨by rw [HS.out]; rfl, k_alloc HB3.out _⟩
          · have HS := Hid.intro (less_next HN2.out hr)
            have hr' : ((ps.getD j dP).r == row) = false := beq_eq_false_iff_ne.2 hr
            clear hr
            generalize ps.getD j dP = x at hy hr'
            obtain ⟨x0, x1, x2⟩ := hy
            go_wp2
            go_roundw
            case rel => exact ⟨j + 1, by omega, by go_num, HS, k_alloc HB2.out _⟩
            case measure => simp [intOf]; omega
        · obtain rfl : j = ps.length := by omega
          have HS := Hid.intro (HG.out (hasP_no HN2.out))
          have HB3 := Hid.intro (k_trans HB.out HB2.out)
          go_wp2
          go_roundw
          case rel => exact ⟨k + 1, by omega, by go_num, HS, HB3⟩
          case measure => simp [intOf]; omega
    · obtain rfl : k = pss.length := by omega
      have HS := Hid.intro (firstP_none HN.out)
      go_wp2
      go_ret
      exact ⟨by rw [HS.out]; rfl, HB.out⟩
end Go.Proofs.Ytfkkhfiiokhnaay
