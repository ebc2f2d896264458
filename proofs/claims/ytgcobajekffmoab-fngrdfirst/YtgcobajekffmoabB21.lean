/-
  PROVED HERE: the laws' own pwOk says true; nothing in memory is turned. Also: small facts on places of a grid, for the other texts of this claim. Also: small facts on a drawn table's grid: a slot is of the cell that has it and of no other; a cell is over no more rows than its part has, and ends with its part where it is cut. Also: the law FnGrdFirst returns true at every code that lies in memory.
-/
import Derived.Test.YtgcobajekffmoabB20
import Derived.Deep.DeepCutAuto
import Derived.Deep.RegionWith
import Derived.Deep.LoopGhost
namespace Go.Proofs.Ytgcobajekffmoab
open Go.RowKit

theorem abcOk : txtOkB ⟨#[97, 98, 32, 99]⟩ = true := by decide +kernel
theorem pwOk_any (w : World) : Calls Try.prog 12 #[] w fun e w' => e = .returned (.bool true) ∧ w' = w := by
  go_enter Try.func12, Try.ntmps12
  go_wp2_with fail
  refine (implTxtOk _ _ (by unfold maxLen; decide)).mono ?_
  rw [abcOk]
  rintro e w1 ⟨rfl, rfl⟩
  go_wp2
  go_ret
  exact ⟨rfl, rfl⟩
end Go.Proofs.Ytgcobajekffmoab
namespace Go.Proofs.Ytgcobajekffmoab
open Go.RowKit

theorem ret_boolG {a b : Bool} (h : a = b) : Ending.returned (.bool a) = .returned (.bool b) := by rw [h]
def isIn (row ins : Int) (x : GC) : Bool := (x.row == row) && (x.ins == ins)
/-- whether a place is one of so many from a first one on -/
def amongB (x first many : Int) : Bool := decide (first ≤ x) && decide (0 < many) && decide (x - first < many)
def holdsB (row col : Int) (x : GC) : Bool := amongB row x.row x.rows && amongB col x.col x.cols

theorem lt_of_blockG {w : World} {g : Nat} {o : Obj} (h : w.heap[g]? = some o) : g < w.heap.size := (Array.getElem?_eq_some_iff.1 h).1

theorem wrap_sub {x f : Int} (hx : -9223372036854775808 ≤ x ∧ x ≤ 9223372036854775807) (hf : -9223372036854775808 ≤ f ∧ f ≤ 9223372036854775807) (h : f ≤ x) : IntKind.u64.wrap (IntKind.u64.wrap x - IntKind.u64.wrap f) = x - f := by
  simp [IntKind.wrap, IntKind.bits, IntKind.signed]
  omega

end Go.Proofs.Ytgcobajekffmoab
namespace Go.Proofs.Ytgcobajekffmoab

theorem freeG_take_succ {gs : List GC} {k : Nat} (x : GC) (h : k < gs.length) : freeG (gs.take (k + 1)) x = (freeG (gs.take k) x && !meetsB (gs.getD k dG) x) := by
  unfold freeG
  rw [List.take_succ_eq_append_getElem h, List.all_append]
  simp [List.getD, h]
theorem free_mem {gs : List GC} {x : GC} {i j : Nat} (h : freeG (gs.take i) x = true) (hj : j < i) (hi : i ≤ gs.length) : meetsB (gs.getD j dG) x = false := by
  have e : gs.getD j dG ∈ gs.take i := by
    have : j < (gs.take i).length := by rw [List.length_take]; omega
    have e2 : gs.getD j dG = (gs.take i)[j] := by simp [List.getD, show j < gs.length by omega]
    rw [e2]; exact List.getElem_mem _
  have := List.all_eq_true.1 h _ e
  simpa using this
theorem holds_meet {r k : Int} {a x : GC} (ha : holdsB r k a = true) (hx : holdsB r k x = true) : meetsB a x = true := by
  simp only [holdsB, amongB, meetsB, Bool.and_eq_true, decide_eq_true_eq] at ha hx ⊢
  omega
theorem findTo_is {p : GC → Bool} {gs : List GC} {k : Nat} (h : findTo p gs = (k : Int)) : p (gs.getD k dG) = true := by
  unfold findTo at h
  split at h
  · rename_i j hj
    rw [List.findIdx?_eq_some_iff_getElem] at hj
    obtain ⟨h1, h2, _⟩ := hj
    obtain rfl : j = k := by omega
    simpa [List.getD, h1] using h2
  · omega
/-- a slot is found to be of the cell that has it, and of no other -/
theorem find_slot {gs : List GC} (hf : ∀ i, i < gs.length → freeG (gs.take i) (gs.getD i dG) = true) {i : Nat} (hi : i < gs.length) (r k : Int) : (findTo (holdsB r k) gs == (i : Int)) = holdsB r k (gs.getD i dG) := by
  cases hh : holdsB r k (gs.getD i dG) with
  | true =>
    rw [findTo_hit hi (fun j hj => ?_) hh]
    · simp
    · cases hc : holdsB r k (gs.getD j dG) with
      | false => rfl
      | true =>
        have := free_mem (hf i hi) hj (by omega)
        rw [holds_meet hc hh] at this
        cases this
  | false =>
    cases he : (findTo (holdsB r k) gs == (i : Int)) with
    | false => rfl
    | true =>
      have := findTo_is (by simpa using he)
      rw [hh] at this
      cases this
theorem part_in {t : T} (h : tblB t = true) {r : Nat} (hr : r < t.rows.length) {q : Int} (h1 : (r : Int) ≤ q) (h2 : q < endOf t r) : partOf t q = partOf t r := by
  have hb := tblB_bounds h
  have h3 : t.head + t.foot ≤ t.rows.length := by
    simp only [tblB, partsB, inB, Bool.and_eq_true, decide_eq_true_eq] at h
    omega
  unfold endOf at h2
  have hq : q < t.rows.length := by split at h2; omega; split at h2 <;> omega
  have hpr : partOf t r = if (r : Int) < t.head then 0 else if (t.rows.length : Int) - t.foot ≤ r then 2 else 1 := by unfold partOf; rw [if_pos ⟨h, inB_true (by omega) (by omega)⟩]
  have hpq : partOf t q = if q < t.head then 0 else if (t.rows.length : Int) - t.foot ≤ q then 2 else 1 := by unfold partOf; rw [if_pos ⟨h, inB_true (by omega) (by omega)⟩]
  rw [hpr, hpq]
  split at h2
  · rename_i h4
    rw [if_pos (by omega), if_pos h4]
  · rename_i h4
    split at h2
    · rename_i h5
      rw [if_neg (by omega), if_neg h4, if_pos (by omega), if_pos h5]
    · rename_i h5
      rw [if_neg (by omega), if_neg h4, if_neg (by omega), if_neg h5]
theorem part_end {t : T} (h : tblB t = true) {r : Nat} (hr : r < t.rows.length) : partOf t (endOf t r) ≠ partOf t r := by
  have hb := tblB_bounds h
  have h3 : t.head + t.foot ≤ t.rows.length := by
    simp only [tblB, partsB, inB, Bool.and_eq_true, decide_eq_true_eq] at h
    omega
  have hpr : partOf t r = if (r : Int) < t.head then 0 else if (t.rows.length : Int) - t.foot ≤ r then 2 else 1 := by unfold partOf; rw [if_pos ⟨h, inB_true (by omega) (by omega)⟩]
  by_cases he : endOf t r < t.rows.length
  · have hpe : partOf t (endOf t r) = if endOf t r < t.head then 0 else if (t.rows.length : Int) - t.foot ≤ endOf t r then 2 else 1 := by
      unfold partOf
      rw [if_pos ⟨h, inB_true (by unfold endOf; split; omega; split <;> omega) (by omega)⟩]
    rw [hpr, hpe]
    unfold endOf at he ⊢
    split at he
    · rename_i h4
      rw [if_pos h4, if_pos h4, if_neg (by omega)]
      split <;> omega
    · rename_i h4
      split at he
      · omega
      · rename_i h5
        rw [if_neg h4, if_neg h5, if_neg h4, if_neg h5, if_neg (by omega), if_pos (by omega)]
        omega
  · have hpe : partOf t (endOf t r) = -1 := by
      unfold partOf
      rw [if_neg]
      rintro ⟨_, h6⟩
      simp [inB] at h6
      omega
    rw [hpe, hpr]
    split
    · omega
    · split <;> omega
end Go.Proofs.Ytgcobajekffmoab
namespace Go.Proofs.Ytgcobajekffmoab
open Go.RowKit

/-- what the law asks of each cell -/
structure Fst (gs : List GC) (k : Nat) : Prop where
  small : Small (gs.getD k dG)
  first : ∀ c : Nat, (c : Int) < (gs.getD k dG).col → freeG (gs.take k) (atCol (gs.getD k dG) c) = false
  after : 0 < k → (gs.getD (k - 1) dG).row < (gs.getD k dG).row ∨ (gs.getD (k - 1) dG).row = (gs.getD k dG).row ∧ (gs.getD (k - 1) dG).ins + 1 = (gs.getD k dG).ins
theorem fst_of {t : T} (hD : Drawn t) : (gOf t).cells.length ≤ 40 ∧ ∀ k, k < (gOf t).cells.length → Fst (gOf t).cells k := by
  cases h : tblB t with
  | false => rw [gOf_no h]; exact ⟨by simp, fun k hk => absurd hk (Nat.not_lt_zero _)⟩
  | true =>
    rw [gOf_ok h]
    have hl := low_of h hD
    have h8 := hl.rows
    have h40 := grid_len hl t.rows.length
    exact ⟨by show (gridTo t t.rows.length).length ≤ 40; omega, fun k hk => ⟨(stands_of hl (getD_mem' hk)).small h8, (laid_of hl hk).first, (laid_of hl hk).after⟩⟩
theorem free_step {gs : List GC} {j : Nat} {x : GC} {k : Int} {b : Bool} (hj : j < gs.length) (hb : freeG (gs.take j) (atCol x k) = b) (c : Bool) (hc : meetsB (gs.getD j dG) (atCol x k) = c) : freeG (gs.take (j + 1)) (atCol x k) = (b && !c) := by
  rw [freeG_take_succ _ hj, hb, hc]
theorem meets_at (d x : GC) (k : Int) : meetsB d (atCol x k) = (decide (d.row < x.row + x.rows) && (decide (x.row < d.row + d.rows) && (decide (d.col < k + x.cols) && decide (k < d.col + d.cols)))) := rfl

set_option maxRecDepth 100000 in
set_option maxHeartbeats 4000000 in
theorem lawGrdFirst_walk (A : Option Addr) (len cap : Nat) (hlen : len ≤ 1048576) (w : World) (h : IsCode w A len cap) :
    Calls Try.prog 6 #[.slice A len cap] w fun e w' => e = .returned (.bool true) ∧ Below w.heap.size w w' := by
  have hl : ¬ (1048576 : Int) < (len : Int) := by omega
  have HD := Hid.intro h
  clear h
  go_enter Try.func6, Try.ntmps6
  go_wp2_with fail
  refine (drawGrdOf_any _ _ _ _ HD.out).mono ?_
  rintro e w1 ⟨ac, ar, cc, cr, t, rfl, hD, hC1, hW1, hb1⟩
  have HS : Hid (St w w1.heap.size ac ar cc cr t (w1.alloc (.cells #[.slice ac t.cols.length cc, .int .i64 t.head, .int .i64 t.foot, .slice ar t.rows.length cr, .int .i64 t.gap] 26))) := ⟨hb1.alloc hb1.size _, TA.kept ⟨hC1, hW1⟩ (k_alloc (Below.refl _ _) _), newestB _ _⟩
  have HDr := Hid.intro hD
  clear hC1 hW1 hb1 hD HD
  go_wp2_with fail
  refine (implGrdOf ac ar cc cr t HDr.out _ HS.out.2.1.1 HS.out.2.1.2).mono ?_
  rintro e w2 ⟨vg, rfl, hO2, hb2⟩
  obtain ⟨ag, cg, rfl⟩ := own_slice hO2
  have hG2 := hO2.at (gOf_gok HDr.out)
  have hS2 := HS.out.kept hb2
  have HG : Hid (SGr w w1.heap.size w2.heap.size ac ar cc cr t ag cg (w2.alloc (.cells #[.int .i64 (gOf t).rows, .int .i64 (gOf t).cols, .slice ag (gOf t).cells.length cg] 39))) :=
    ⟨hS2.kept (k_alloc (Below.refl _ _) _), (hG2.base (by have := HS.out.1.size; omega)).kept (k_alloc (Below.refl _ _) _), newestB _ _⟩
  clear hO2 hb2 hG2 hS2 HS
  go_upto_region 5 with fail
  obtain ⟨W2, hW2⟩ : ∃ W2, w2.alloc (.cells #[.int .i64 (gOf t).rows, .int .i64 (gOf t).cols, .slice ag (gOf t).cells.length cg] 39) = W2 := ⟨_, rfl⟩
  rw [hW2] at HG ⊢
  clear hW2
  obtain ⟨z0, z1, z2, z3, z4⟩ := HG.out.1.at
  obtain ⟨y0, y1, y2⟩ := HG.out.at
  go_cut [22] (fun s W => s = .bool false ∧ Hid (SGr w w1.heap.size w2.heap.size ac ar cc cr t ag cg W))
  case first =>
    have HG0 := Hid.intro (HG.out.kept (k_drew (Below.refl _ _)))
    go_region_with (first
      | (go_at_call 16; refine (specGrdOf ac ar cc cr t HDr.out _ HG0.out.1.2.1.1 HG0.out.1.2.1.2).mono ?_; rintro e w3 ⟨vg3, rfl, hO3, hb3⟩; obtain ⟨a3, c3, rfl⟩ := own_slice hO3; have HY := Hid.intro (hO3.at (gOf_gok HDr.out)); have HG3 := Hid.intro (HG0.out.kept hb3); clear hO3 hb3; obtain ⟨p0, p1, p2⟩ := HG3.out.at)
      | (go_at_call 15; refine (pwGrid_any _ _ _ _ _ _ HG3.out.2.1 HY.out).mono ?_; rintro e w4 ⟨rfl, hb4⟩; have HG4 := Hid.intro (HG3.out.kept hb4); clear hb4))
    all_goals (go_wp2_with fail; go_meet; case rel => exact ⟨rfl, HG4⟩)
  case rest =>
    obtain ⟨rfl, HG1⟩ := hcut
    clear z0 z1 z2 z3 z4 y0 y1 y2 HG
    obtain ⟨h40, hF⟩ := fst_of HDr.out
    have HF := Hid.intro hF
    clear hF
    obtain ⟨y0, y1, y2⟩ := HG1.out.at
    go_wp2_with fail
    clear y0 y1 y2
    go_loopw [5] (fun i W => ∃ k : Nat, i = .int .i64 k ∧ k ≤ (gOf t).cells.length ∧ Hid (SGr w w1.heap.size w2.heap.size ac ar cc cr t ag cg W)) (fun i _ => (gOf t).cells.length - (intOf i).toNat)
    case atStart => exact ⟨0, rfl, Nat.zero_le _, HG1⟩
    case round =>
      obtain ⟨k, rfl, hk, HG⟩ := hrel
      obtain ⟨y0, y1, y2⟩ := HG.out.at
      by_cases hlt : k < (gOf t).cells.length
      case neg =>
        obtain rfl : k = (gOf t).cells.length := by omega
        go_wp2_with fail
        refine (pwOk_any _).mono ?_
        rintro e w5 ⟨rfl, rfl⟩
        go_wp2
        go_ret
        exact ⟨rfl, HG.out.1.1⟩
      obtain ⟨b, off, cap', e', hc1, hc2, hbl, hx, _⟩ := At.get HG.out.2.1 hlt
      simp only [Value.slice.injEq, true_and] at e'
      obtain ⟨rfl, rfl⟩ := e'
      unfold maxLen at hc2
      have HX := Hid.intro (HF.out k hlt)
      obtain ⟨x, hxe⟩ : ∃ x, (gOf t).cells.getD k dG = x := ⟨_, rfl⟩
      rw [hxe] at hx
      have hsm : Small x := hxe ▸ HX.out.small
      obtain ⟨s1, s2, s3, s4, s5⟩ := hsm
      obtain ⟨x0, x1, x2, x3, x4⟩ := hx
      have HXE := Hid.intro hxe
      clear hxe
      go_upto_region 11 with fail
      obtain ⟨W3, hW3⟩ : ∃ W3, wr.alloc (.cells #[.int .i64 x.row, .int .i64 x.col, .int .i64 x.rows, .int .i64 x.cols, .int .i64 x.ins] 45) = W3 := ⟨_, rfl⟩
      have HC : Hid (SCe w w1.heap.size w2.heap.size wr.heap.size ac ar cc cr t (some ⟨b, off, none⟩) cg x W3) := by rw [← hW3]; exact ⟨HG.out.kept (k_alloc (Below.refl _ _) _), newestB _ _⟩
      rw [hW3]
      clear hW3
      generalize wr.heap.size = cb at HC ⊢
      clear HG y0 y1 y2 x0 x1 x2 x3 x4 hbl
      obtain ⟨q0, q1, q2, q3, q4⟩ := HC.out.at
      obtain ⟨y0, y1, y2⟩ := HC.out.1.at
      go_cut [73] (fun s W => s = .bool false ∧ Hid (SCe w w1.heap.size w2.heap.size cb ac ar cc cr t (some ⟨b, off, none⟩) cg x W))
      case first =>
        by_cases h0 : k = 0
        case pos =>
          subst h0
          clear HX HXE HF
          go_quiet (fail)
          go_wp2_with fail
          go_meet
          case rel => exact ⟨rfl, HC.out.kept (k_drewN (Below.refl _ _) _)⟩
        case neg =>
          obtain ⟨m, rfl⟩ : ∃ m, k = m + 1 := ⟨k - 1, by omega⟩
          have hm : m < (gOf t).cells.length := by omega
          have hk0 : (0 : Int) < ((m + 1 : Nat) : Int) := by omega
          obtain ⟨b', off', cap'', e', hd1, hd2, hbl', hd, _⟩ := At.get HC.out.1.2.1 hm
          simp only [Value.slice.injEq, Option.some.injEq, Addr.mk.injEq, and_true, true_and] at e'
          obtain ⟨⟨rfl, rfl⟩, rfl⟩ := e'
          have hsd := (HF.out m hm).small
          have haf := HX.out.after (by omega)
          rw [Nat.add_sub_cancel, HXE.out] at haf
          generalize (gOf t).cells.getD m dG = d at hd hsd haf
          obtain ⟨d0, d1, d2, d3, d4⟩ := hd
          obtain ⟨t1, t2, t3, t4, t5⟩ := hsd
          clear HX HXE HF hd1 hd2 hbl'
          rcases haf with ha | ⟨ha, hb⟩
          · have e1 : (x.row < d.row) = False := by simp; omega
            have e2 : (d.row == x.row) = false := by simp; omega
            go_quiet (fail)
            go_wp2_with fail
            go_meet
            case rel => exact ⟨rfl, HC.out.kept (k_drewN (Below.refl _ _) _)⟩
          · have e1 : (x.row < d.row) = False := by simp; omega
            have e2 : (d.row == x.row) = true := by simp [ha]
            have e3 : (d.ins + 1 != x.ins) = false := by simp [hb]
            clear ha hb
            go_quiet (fail)
            go_wp2_with fail
            go_meet
            case rel => exact ⟨rfl, HC.out.kept (k_drewN (Below.refl _ _) _)⟩
      case rest =>
        obtain ⟨rfl, HC1⟩ := hcut
        clear q0 q1 q2 q3 q4 y0 y1 y2 HC
        obtain ⟨c, hc⟩ : ∃ c : Nat, x.col = c := ⟨x.col.toNat, by omega⟩
        go_wp2_with fail
        go_loopw [7] (fun s W => ∃ j : Nat, s = .int .i64 j ∧ j ≤ c ∧ Hid (SCe w w1.heap.size w2.heap.size cb ac ar cc cr t (some ⟨b, off, none⟩) cg x W)) (fun s _ => c - (intOf s).toNat)
        case atStart => exact ⟨0, rfl, Nat.zero_le _, HC1⟩
        case round =>
          obtain ⟨j, rfl, hj, HC⟩ := hrel
          obtain ⟨q0, q1, q2, q3, q4⟩ := HC.out.at
          rw [hc] at q1
          by_cases hjc : j < c
          case neg =>
            obtain rfl : j = c := by omega
            go_wp2
            go_roundw
            case rel => exact ⟨k + 1, by go_num, by omega, HC.out.1⟩
            case measure => simp [intOf]; omega
          have HFF := Hid.intro (HX.out.first j (by rw [HXE.out]; omega))
          rw [HXE.out] at HFF
          go_wp2_with fail
          clear q0 q1 q2 q3 q4
          go_loopw [8, 9] (fun f s W => ∃ m : Nat, s = .int .i64 m ∧ m ≤ k ∧ f = .bool (freeG ((gOf t).cells.take m) (atCol x j)) ∧ Hid (SCe w w1.heap.size w2.heap.size cb ac ar cc cr t (some ⟨b, off, none⟩) cg x W)) (fun _ s _ => k - (intOf s).toNat)
          case atStart => exact ⟨0, rfl, Nat.zero_le _, rfl, HC⟩
          case round =>
            clear HC
            obtain ⟨m, rfl, hm, rfl, HC⟩ := hrel
            by_cases hmk : m < k
            case neg =>
              obtain rfl : m = k := by omega
              rw [HFF.out]
              go_wp2
              go_roundw
              case rel => exact ⟨j + 1, by go_num, by omega, HC⟩
              case measure => simp [intOf]; omega
            have hm2 : m < (gOf t).cells.length := by omega
            obtain ⟨q0, q1, q2, q3, q4⟩ := HC.out.at
            obtain ⟨y0, y1, y2⟩ := HC.out.1.at
            have hcb : cb < wr.heap.size := (Array.getElem?_eq_some_iff.1 HC.out.2).1
            obtain ⟨b', off', cap'', e', hd1, hd2, hbl', hd, _⟩ := At.get HC.out.1.2.1 hm2
            simp only [Value.slice.injEq, Option.some.injEq, Addr.mk.injEq, and_true, true_and] at e'
            obtain ⟨⟨rfl, rfl⟩, rfl⟩ := e'
            have hsd := (HF.out m hm2).small
            obtain ⟨fb, hfb⟩ : ∃ fb, freeG ((gOf t).cells.take m) (atCol x j) = fb := ⟨_, rfl⟩
            have HST := Hid.intro (fun c hc => free_step hm2 hfb c hc)
            rw [hfb]
            generalize (gOf t).cells.getD m dG = d at hd hsd HST
            have HMT := Hid.intro (meets_at d x j)
            obtain ⟨d0, d1, d2, d3, d4⟩ := hd
            obtain ⟨t1, t2, t3, t4, t5⟩ := hsd
            clear hd1 hd2 hfb HFF
            cases fb with
            | false =>
              go_wp2
              go_roundw
              case rel => exact ⟨m + 1, by go_num, by omega, vB (HST.out _ rfl).symm, HC.out.kept (k_alloc (Below.refl _ _) _)⟩
              case measure => simp [intOf]; omega
            | true =>
              by_cases c1 : d.row < x.row + x.rows
              case neg =>
                have HV := Hid.intro (HST.out false (by rw [HMT.out]; simp; omega))
                go_wp2
                go_roundw
                case rel => exact ⟨m + 1, by go_num, by omega, vB HV.out.symm, HC.out.kept (k_alloc (Below.refl _ _) _)⟩
                case measure => simp [intOf]; omega
              by_cases c2 : x.row < d.row + d.rows
              case neg =>
                have HV := Hid.intro (HST.out false (by rw [HMT.out]; simp; omega))
                go_wp2
                go_roundw
                case rel => exact ⟨m + 1, by go_num, by omega, vB HV.out.symm, HC.out.kept (k_alloc (Below.refl _ _) _)⟩
                case measure => simp [intOf]; omega
              by_cases c3 : d.col < (j : Int) + x.cols
              case neg =>
                have HV := Hid.intro (HST.out false (by rw [HMT.out]; simp; omega))
                go_wp2
                go_roundw
                case rel => exact ⟨m + 1, by go_num, by omega, vB HV.out.symm, HC.out.kept (k_alloc (Below.refl _ _) _)⟩
                case measure => simp [intOf]; omega
              by_cases c4 : (j : Int) < d.col + d.cols
              case neg =>
                have HV := Hid.intro (HST.out false (by rw [HMT.out]; simp; omega))
                go_wp2
                go_roundw
                case rel => exact ⟨m + 1, by go_num, by omega, vB HV.out.symm, HC.out.kept (k_alloc (Below.refl _ _) _)⟩
                case measure => simp [intOf]; omega
              have HV := Hid.intro (HST.out true (by rw [HMT.out]; simp; omega))
              go_wp2
              go_roundw
              case rel => exact ⟨m + 1, by go_num, by omega, vB HV.out.symm, HC.out.kept (k_alloc (Below.refl _ _) _)⟩
              case measure => simp [intOf]; omega

theorem lawGrdFirst (a : Option Addr) (len cap : Nat) (w : World) (h : IsCode w a len cap) :
    Calls Try.prog 6 #[.slice a len cap] w fun e w' => e = .returned (.bool true) ∧ Below w.heap.size w w' := by
  by_cases hl : len ≤ 1048576
  · exact lawGrdFirst_walk a len cap hl w h
  · have hl' : (1048576 : Int) < (len : Int) := by omega
    clear h
    go_enter Try.func6, Try.ntmps6
    go_wp2
    go_ret
    exact ⟨rfl, Below.refl _ _⟩
end Go.Proofs.Ytgcobajekffmoab
