/-
  PROVED HERE: DrawQryIn draws where something is, and a place; nothing that was in memory is turned.
-/
import Derived.Test.YtcbibdhlkdcmiaiRd
import Derived.Test.YtcbibdhlkdcmiaiGrdD
import Derived.Test.YtcbibdhlkdcmiaiMem
import Derived.Deep.DeepCutAuto
import Derived.Deep.RegionWith
namespace Go.Proofs.Ytcbibdhlkdcmiai
open Go.RowKit

theorem lit3i (k : Int) (h0 : 0 ≤ k) (h1 : k < 3) : ∃ v : Int, I64 v ∧ (#[.int .i64 9223372036854775807, .int .i64 (-9223372036854775808), .int .i64 (-3)] : Array Value)[k.toNat]? = some (.int .i64 v) := by
  rcases (by omega : k = 0 ∨ k = 1 ∨ k = 2) with rfl | rfl | rfl
  · exact ⟨9223372036854775807, by unfold I64; omega, rfl⟩
  · exact ⟨-9223372036854775808, by unfold I64; omega, rfl⟩
  · exact ⟨-3, by unfold I64; omega, rfl⟩
theorem fourFi {w : World} {g : Nat} {x0 x1 x2 x3 : Value} {t : TypeId} (h : w.heap[g]? = some (.cells #[x0, x1, x2, x3] t)) :
    (w.cell? ⟨g, 0, none⟩ = some x0 ∧ w.cell? ⟨g, 1, none⟩ = some x1 ∧ w.cell? ⟨g, 2, none⟩ = some x2 ∧ w.cell? ⟨g, 3, none⟩ = some x3) ∧ ∀ p, w.frozen? ⟨g, p, none⟩ = false :=
  ⟨⟨cellB h, cellB h, cellB h, cellB h⟩, fun _ => freeB h⟩
theorem new_cellQ {r : Nat} {w w' : World} {cs : Array Value} {t : TypeId} (k : Bk r (w.alloc (.cells cs t)) w') (hr : r < w.heap.size) (i : Nat) {v : Value} (hv : cs[i]? = some v) : w'.cell? ⟨w.heap.size, i, none⟩ = some v :=
  (cellB ((k.block w.heap.size (by simp) (by omega)).trans (newestB _ _))).trans hv
theorem IsCode.keptQ {w w' : World} {a : Option Addr} {len cap : Nat} (h : IsCode w a len cap) (hb : Below w.heap.size w w') : IsCode w' a len cap := by
  obtain ⟨h1, h2, hc⟩ := h
  refine ⟨h1, h2, fun i hi => ?_⟩
  obtain ⟨b, off, z, e, l, c, z0, z1⟩ := hc i hi
  exact ⟨b, off, z, e, Nat.lt_of_lt_of_le l hb.size, (hb.cell (p := ⟨b, off + i, none⟩) l).trans c, z0, z1⟩
set_option maxRecDepth 100000 in
set_option maxHeartbeats 4000000 in
theorem drawQryIn_any (a : Option Addr) (len cap : Nat) (w : World) (h : IsCode w a len cap) :
    Calls Try.prog 8 #[.slice a len cap] w fun e w' => ∃ y0 y1 y2 y3 p q : Int, e = .returned (.tuple #[.agg #[.int .i64 y0, .int .i64 y1, .int .i64 y2, .int .i64 y3], .int .i64 p, .int .i64 q]) ∧ (I64 y0 ∧ I64 y1 ∧ I64 y2 ∧ I64 y3) ∧ (-1 ≤ p ∧ p ≤ 9) ∧ (-1 ≤ q ∧ q ≤ 9) ∧ Below w.heap.size w w' := by
  have K0 := k_alloc (Below.refl w.heap.size w) (.cells #[.int .i64 0, .int .i64 0, .int .i64 0, .int .i64 0] 30)
  have HC := Hid.intro (h.keptQ K0)
  have X0 := newestB w (.cells #[.int .i64 0, .int .i64 0, .int .i64 0, .int .i64 0] 30)
  clear h
  have hsz : (w.alloc (.cells #[.int .i64 0, .int .i64 0, .int .i64 0, .int .i64 0] 30)).heap.size = w.heap.size + 1 := by simp
  go_enter Try.func8, Try.ntmps8
  go_wp2_with fail
  refine (open_any _ _ _ _ HC.out).mono ?_
  rintro e w1 ⟨rfl, hR1, hb1⟩
  rw [hsz] at hR1 hb1
  have X1 := (hb1.block w.heap.size (by omega)).trans X0
  have K1 := k_trans K0 (by rw [hsz]; exact hb1)
  have hz1 := hR1.lt
  clear hb1 X0 K0 HC hsz
  go_wp2_with fail
  refine (pick_any _ _ _ _ hR1 (by omega)).mono ?_
  rintro e w2 ⟨x0, rfl, hx0, hR2, hb2⟩
  obtain ⟨a0, b0⟩ := hx0 (by omega)
  go_wp2_with fail
  refine (pick_any _ _ _ _ hR2 (by omega)).mono ?_
  rintro e w3 ⟨x1, rfl, hx1, hR3, hb3⟩
  obtain ⟨a1, b1⟩ := hx1 (by omega)
  go_wp2_with fail
  refine (pick_any _ _ _ _ hR3 (by omega)).mono ?_
  rintro e w4 ⟨x2, rfl, hx2, hR4, hb4⟩
  obtain ⟨a2, b2⟩ := hx2 (by omega)
  go_wp2_with fail
  refine (pick_any _ _ _ _ hR4 (by omega)).mono ?_
  rintro e w5 ⟨x3, rfl, hx3, hR5, hb5⟩
  obtain ⟨a3, b3⟩ := hx3 (by omega)
  have hb := ((hb2.trans hb3).trans hb4).trans hb5
  have Q5 := (hb.block w.heap.size (by omega) (by omega)).trans X1
  clear hb2 hb3 hb4 hb5 hx0 hx1 hx2 hx3 hR2 hR3 hR4 hR1 X1
  have hr5 := hR5.lt
  have hs5 := hb.size
  have hlt5 := (Array.getElem?_eq_some_iff.1 Q5).1
  go_upto_if 21 with (go_at_call 18; refine (pick_any _ _ _ _ (hR5.alloc _) (by omega)).mono ?_; rintro e w6 ⟨x9, rfl, _, hR6, hb6⟩)
  have Q6 := Hid.intro ((hb6.block w.heap.size (by simp; omega) (by omega)).trans ((Below.heap_alloc _ _ _ hlt5).trans Q5))
  have P6 := Hid.intro ((hb6.block w5.heap.size (by simp) (by omega)).trans (newestB w5 (.cells #[.int .i64 x0, .int .i64 x1, .int .i64 x2, .int .i64 x3] 30)))
  have K6 := Hid.intro ((hb.alloc (.cells #[.int .i64 x0, .int .i64 x1, .int .i64 x2, .int .i64 x3] 30)).trans hb6)
  have R6 := Hid.intro hR6
  have HK1 := Hid.intro K1
  have hwpb : w1.heap.size ≤ w5.heap.size := hs5
  have hrpb : w.heap.size + 1 < w5.heap.size := by omega
  clear hb6 hR6 Q5 hb hR5 K1 hlt5 hr5 hs5
  generalize w5.heap.size = pb at P6 hwpb hrpb ⊢
  go_cut [6] (fun s W => s = .pointer (some ⟨pb, 0, none⟩) ∧ ∃ y0 y1 y2 y3 : Int, (I64 y0 ∧ I64 y1 ∧ I64 y2 ∧ I64 y3) ∧ Hid (W.heap[pb]? = some (.cells #[.int .i64 y0, .int .i64 y1, .int .i64 y2, .int .i64 y3] 30)) ∧ Hid (W.heap[w.heap.size]? = some (.cells #[.int .i64 0, .int .i64 0, .int .i64 0, .int .i64 0] 30)) ∧ Hid (Rd W (w.heap.size + 1) 30) ∧ Hid (Bk (w.heap.size + 1) w1 W))
  case first =>
    by_cases h9 : x9 = 0
    · subst h9
      go_wp2_with fail
      refine (pick_any _ _ _ _ (R6.out.alloc _) (by omega)).mono ?_
      rintro e w6b ⟨k4, rfl, hk4, hR6b, hb6b⟩
      obtain ⟨ka, kb⟩ := hk4 (by omega)
      obtain ⟨v, hv, hvl⟩ := lit3i k4 ka kb
      have hr6 := R6.out.lt
      have hcv := new_cellQ hb6b hr6 _ hvl
      have hpl := (Array.getElem?_eq_some_iff.1 P6.out).1
      have P6b := (hb6b.block pb (by simp; omega) (by omega)).trans ((Below.heap_alloc _ _ _ hpl).trans P6.out)
      have Q6b := (hb6b.block w.heap.size (by simp; omega) (by omega)).trans ((Below.heap_alloc _ _ _ (by omega)).trans Q6.out)
      have K6b := (K6.out.alloc _).trans hb6b
      clear hb6b P6 Q6 K6 R6 hk4 hvl
      go_wp2_with fail
      refine (pick_any _ _ _ _ hR6b (by omega)).mono ?_
      rintro e w7 ⟨s, rfl, hs, hR7, hb7⟩
      obtain ⟨sa, sb⟩ := hs (by omega)
      have P7 := (hb7.block pb (Array.getElem?_eq_some_iff.1 P6b).1 (by omega)).trans P6b
      have Q7 := (hb7.block w.heap.size (Array.getElem?_eq_some_iff.1 Q6b).1 (by omega)).trans Q6b
      have K7 := K6b.trans hb7
      clear hb7 P6b Q6b K6b hR6b hs hcv
      unfold I64 at hv
      rcases (by omega : s = 0 ∨ s = 1 ∨ s = 2 ∨ s = 3) with rfl | rfl | rfl | rfl
      · have P8 := Hid.intro (setB (p := 0) P7 (.int .i64 v))
        have Q8 := Hid.intro ((Below.heap_setCell w7 ⟨pb, 0, none⟩ (.int .i64 v) w.heap.size (by show w.heap.size ≠ pb; omega)).trans Q7)
        obtain ⟨⟨o0, o1, o2, o3⟩, of⟩ := fourFi P7
        have of0 := of 0
        have R8 := Hid.intro (hR7.set (p := ⟨pb, 0, none⟩) hrpb (.int .i64 v))
        have K8 := Hid.intro (K7.set (p := ⟨pb, 0, none⟩) (.inr hwpb) (.int .i64 v))
        clear of P7 Q7 hR7 K7
        go_wp2_with fail
        go_meet
        case rel => exact ⟨rfl, v, x1, x2, x3, by unfold I64; exact ⟨hv, by omega, by omega, by omega⟩, P8, Q8, R8.out.mono (by omega), K8⟩
      · have P8 := Hid.intro (setB (p := 1) P7 (.int .i64 v))
        have Q8 := Hid.intro ((Below.heap_setCell w7 ⟨pb, 1, none⟩ (.int .i64 v) w.heap.size (by show w.heap.size ≠ pb; omega)).trans Q7)
        obtain ⟨⟨o0, o1, o2, o3⟩, of⟩ := fourFi P7
        have of1 := of 1
        have R8 := Hid.intro (hR7.set (p := ⟨pb, 1, none⟩) hrpb (.int .i64 v))
        have K8 := Hid.intro (K7.set (p := ⟨pb, 1, none⟩) (.inr hwpb) (.int .i64 v))
        clear of P7 Q7 hR7 K7
        go_wp2_with fail
        go_meet
        case rel => exact ⟨rfl, x0, v, x2, x3, by unfold I64; exact ⟨by omega, hv, by omega, by omega⟩, P8, Q8, R8.out.mono (by omega), K8⟩
      · have P8 := Hid.intro (setB (p := 2) P7 (.int .i64 v))
        have Q8 := Hid.intro ((Below.heap_setCell w7 ⟨pb, 2, none⟩ (.int .i64 v) w.heap.size (by show w.heap.size ≠ pb; omega)).trans Q7)
        obtain ⟨⟨o0, o1, o2, o3⟩, of⟩ := fourFi P7
        have of2 := of 2
        have R8 := Hid.intro (hR7.set (p := ⟨pb, 2, none⟩) hrpb (.int .i64 v))
        have K8 := Hid.intro (K7.set (p := ⟨pb, 2, none⟩) (.inr hwpb) (.int .i64 v))
        clear of P7 Q7 hR7 K7
        go_wp2_with fail
        go_meet
        case rel => exact ⟨rfl, x0, x1, v, x3, by unfold I64; exact ⟨by omega, by omega, hv, by omega⟩, P8, Q8, R8.out.mono (by omega), K8⟩
      · have P8 := Hid.intro (setB (p := 3) P7 (.int .i64 v))
        have Q8 := Hid.intro ((Below.heap_setCell w7 ⟨pb, 3, none⟩ (.int .i64 v) w.heap.size (by show w.heap.size ≠ pb; omega)).trans Q7)
        obtain ⟨⟨o0, o1, o2, o3⟩, of⟩ := fourFi P7
        have of3 := of 3
        have R8 := Hid.intro (hR7.set (p := ⟨pb, 3, none⟩) hrpb (.int .i64 v))
        have K8 := Hid.intro (K7.set (p := ⟨pb, 3, none⟩) (.inr hwpb) (.int .i64 v))
        clear of P7 Q7 hR7 K7
        go_wp2_with fail
        go_meet
        case rel => exact ⟨rfl, x0, x1, x2, v, by unfold I64; exact ⟨by omega, by omega, by omega, hv⟩, P8, Q8, R8.out.mono (by omega), K8⟩
    · have h9' : (x9 == 0) = false := beq_eq_false_iff_ne.2 h9
      go_wp2_with fail
      go_meet
      case rel => exact ⟨rfl, x0, x1, x2, x3, by unfold I64; omega, P6, Q6, R6.out.mono (by omega), K6⟩
  case rest =>
    obtain ⟨rfl, y0, y1, y2, y3, hy, P8, Q8, R8, K8⟩ := hcut
    clear P6 Q6 K6 R6
    have Rd8 := Hid.intro (Rd.drew R8.out)
    have Pd : wc.drew.heap[pb]? = some (.cells #[.int .i64 y0, .int .i64 y1, .int .i64 y2, .int .i64 y3] 30) := P8.out
    have Qd : wc.drew.heap[w.heap.size]? = some (.cells #[.int .i64 0, .int .i64 0, .int .i64 0, .int .i64 0] 30) := Q8.out
    have Kd := Hid.intro K8.out.drew
    have HPd := Hid.intro Pd
    have HQd := Hid.intro Qd
    obtain ⟨⟨p0, p1, p2, p3⟩, _⟩ := fourFi Pd
    obtain ⟨⟨p0', p1', p2', p3'⟩, _⟩ := fourFi P8.out
    clear Pd Qd
    go_wp2_with fail
    go_region_with (first
      | (go_at_call 18; refine (pick_any _ 30 _ _ Rd8.out (by omega)).mono ?_; rintro e w9 ⟨k9, rfl, hk9, hR9, hb9⟩; obtain ⟨c9, d9⟩ := hk9 (by omega); have P9 := Hid.intro ((hb9.block pb (Array.getElem?_eq_some_iff.1 HPd.out).1 (by omega)).trans HPd.out); have Q9 := Hid.intro ((hb9.block w.heap.size (Array.getElem?_eq_some_iff.1 HQd.out).1 (by omega)).trans HQd.out); have K9 := Hid.intro (Kd.out.trans hb9); obtain ⟨⟨r0, r1, r2, r3⟩, _⟩ := fourFi P9.out; clear hb9 hk9)
      | (go_at_call 18; refine (pick_any _ 31 _ _ hR9 (by omega)).mono ?_; rintro e w10 ⟨k10, rfl, hk10, hR10, hb10⟩; obtain ⟨c10, d10⟩ := hk10 (by omega); have P10 := (hb10.block pb (Array.getElem?_eq_some_iff.1 P9.out).1 (by omega)).trans P9.out; have Q10 := (hb10.block w.heap.size (Array.getElem?_eq_some_iff.1 Q9.out).1 (by omega)).trans Q9.out; have K10 := Hid.intro (K9.out.trans hb10); obtain ⟨⟨s0, s1, s2, s3⟩, _⟩ := fourFi P10; obtain ⟨⟨q0, q1, q2, q3⟩, qf⟩ := fourFi Q10; have qf0 := qf 0; have qf1 := qf 1; have qf2 := qf 2; have qf3 := qf 3; clear hb10 hk10 qf P10 Q10))
    all_goals
      go_wp2
      have e9 : IntKind.i64.wrap (k9 - 1) = k9 - 1 := by rw [IntKind.wrap_i64]; omega
      have e10 : IntKind.i64.wrap (k10 - 1) = k10 - 1 := by rw [IntKind.wrap_i64]; omega
      refine bodyPost_ret (v := .tuple #[.agg #[.int .i64 y0, .int .i64 y1, .int .i64 y2, .int .i64 y3], .int .i64 (k9 - 1), .int .i64 (k10 - 1)]) (by simp [results, Try.results8, go_sem, q0, q1, q2, q3, e9, e10]) rfl ⟨y0, y1, y2, y3, k9 - 1, k10 - 1, rfl, hy, by omega, by omega, ?_⟩
      have HB := HK1.out.trans (K10.out.below (n := w.heap.size) (by omega) (by omega))
      exact k_set (k_set (k_set (k_set HB (p := ⟨w.heap.size, 0, none⟩) (Nat.le_refl _) _) (p := ⟨w.heap.size, 1, none⟩) (Nat.le_refl _) _) (p := ⟨w.heap.size, 2, none⟩) (Nat.le_refl _) _) (p := ⟨w.heap.size, 3, none⟩) (Nat.le_refl _) _
end Go.Proofs.Ytcbibdhlkdcmiai
