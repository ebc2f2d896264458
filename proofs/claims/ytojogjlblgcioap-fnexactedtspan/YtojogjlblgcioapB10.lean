/-
  PROVED HERE: what the laws' own heldTblColS, heldTblRowS and heldTblTable answer of a table that was marked: the number behind the last mark; nothing that was in memory is turned. Also: a region that draws its order, by a fact that each operation keeps, whatever was carried out ahead of it. Also: as AnyInv's law, and besides: what an operation hangs on has been carried out ahead of it.
-/
import Derived.Test.YtojogjlblgcioapB9
import Derived.WalkLawsBesides
import Derived.WalkSpells
import Derived.Deep.QuietTactic
import Derived.BigQuiet
import Derived.RegionTactic
import Derived.Lib.SmallJoins
import Derived.Orders
namespace Go.Proofs.Ytojogjlblgcioap
open Go.RowKit

theorem own_colsH {w : World} {B n k0 : Nat} {u : Value} (h : OwnCol w B u (mkCols n k0)) : ∃ a cap, u = .slice a n cap ∧ n ≤ maxLen ∧ ∀ i, i < n → ∃ g, a = some ⟨g, 0, none⟩ ∧ n ≤ cap ∧ cap ≤ maxLen ∧ g < w.heap.size ∧ w.cell? ⟨g, i * 2, none⟩ = some (.int .i64 ((k0 + 2 * i : Nat) : Int)) ∧ w.cell? ⟨g, i * 2 + 1, none⟩ = some (.int .i64 (((k0 + 2 * i : Nat) : Int) + 1)) := by
  have hl := mkCols_len n k0
  rcases h.2 with ⟨rfl, e⟩ | ⟨g, cap, cur, rfl, hg, hc, a1, a2, a3, a4⟩
  · rw [hl] at e
    subst e
    exact ⟨none, 0, rfl, Nat.zero_le _, fun i hi => absurd hi (Nat.not_lt_zero _)⟩
  · rw [hl] at a1 a4
    refine ⟨some ⟨g, 0, none⟩, cap, by rw [hl], Nat.le_trans a1 a2, fun i hi => ⟨g, rfl, a1, a2, (Array.getElem?_eq_some_iff.1 hc).1, ?_⟩⟩
    have hx : ∀ j, j < 2 → w.cell? ⟨g, i * 2 + j, none⟩ = (colVs (mkCol (k0 + 2 * i)))[j]? := fun j hj => by
      have hil : i < (mkCols n k0).length := by rw [hl]; exact hi
      have e := flat_get colVs 2 (fun _ => rfl) (mkCols n k0) i hil j hj
      rw [← a4, List.getElem?_take_of_lt (by omega), Array.getElem?_toList, ← getD_get (0, 0) hil, mkCols_get hi] at e
      rw [cellB hc, e]
    exact ⟨hx 0 (by omega), hx 1 (by omega)⟩

set_option maxRecDepth 100000 in
set_option maxHeartbeats 2000000 in
theorem heldTblColS_any (u : Value) (n k0 : Nat) (hb : k0 + 2 * n ≤ 99999990) (B : Nat) (w : World) (h : OwnCol w B u (mkCols n k0)) :
    Calls Try.prog 31 #[u, .int .i64 k0] w fun e w' => e = .returned (.int .i64 ((k0 + 2 * n : Nat) : Int)) ∧ w' = w := by
  obtain ⟨a, cap, rfl, hlen, hX⟩ := own_colsH h
  have X := Hid.intro hX
  clear h hX
  unfold maxLen at hlen
  go_enter Try.func31, Try.ntmps31
  go_wp2_with fail
  go_loopw [1, 5] (fun q i W => ∃ (k b : Nat), k ≤ n ∧ i = .int .i64 k ∧ q = .int .i64 b ∧ Hid (b = k0 + 2 * k) ∧ W = w) (fun _ i _ => n - (intOf i).toNat)
  case atStart => exact ⟨0, k0, Nat.zero_le _, rfl, rfl, rfl, rfl⟩
  case round =>
    obtain ⟨k, b, hk, rfl, rfl, HE, rfl⟩ := hrel
    by_cases hlt : k < n
    · obtain ⟨g, rfl, h1, h2, hgl, q0, q1⟩ := X.out k hlt
      have hbb : b ≤ 99999988 := by rw [HE.out]; omega
      rw [← HE.out] at q0 q1
      have HE2 : Hid (b + 2 = k0 + 2 * (k + 1)) := by show _ = _; rw [HE.out]; omega
      unfold maxLen at h2
      have ne0 : ((b : Int) != (b : Int)) = false := by simp
      have ne1 : (((b : Int) + 1) != ((b : Int) + 1)) = false := by simp
      clear HE
      go_wp2
      go_roundw
      case rel => exact ⟨k + 1, b + 2, by omega, by go_num, by go_num, HE2, trivial⟩
      case measure => simp [intOf]; omega
    · obtain rfl : k = n := by omega
      have HE2 : Hid ((b : Int) = ((k0 + 2 * k : Nat) : Int)) := by show _ = _; rw [HE.out]
      clear HE
      go_wp2
      go_ret
      exact ⟨congrArg (fun x : Int => Ending.returned (Value.int .i64 x)) HE2.out, rfl⟩

set_option maxRecDepth 100000 in
set_option maxHeartbeats 2000000 in
theorem heldTblRowS_any (v : Value) (ur : List (Value × R)) (k0 : Nat) (h0 : 0 < k0) (hb : kAt (ur.map (·.2)) k0 ur.length ≤ 99999990) (B : Nat) (w : World) (h : OwnR w B v (mkU ur k0 ur.length)) :
    Calls Try.prog 32 #[v, .int .i64 k0] w fun e w' => e = .returned (.int .i64 ((kAt (ur.map (·.2)) k0 ur.length : Nat) : Int)) ∧ Below w.heap.size w w' := by
  obtain ⟨a, cap, hv, hlen⟩ := row_form h.own
  rw [mkU_len] at hv hlen
  subst hv
  have HO := Hid.intro h
  have HbM := Hid.intro hb
  clear h hb
  unfold maxLen at hlen
  go_enter Try.func32, Try.ntmps32
  go_wp2_with fail
  go_loopw [1, 5] (fun q i W => ∃ (k b : Nat), k ≤ ur.length ∧ i = .int .i64 k ∧ q = .int .i64 b ∧ Hid (b = kAt (ur.map (·.2)) k0 k) ∧ Hid (Below w.heap.size w W)) (fun _ i _ => ur.length - (intOf i).toNat)
  case atStart => exact ⟨0, k0, Nat.zero_le _, rfl, rfl, rfl, Below.refl _ _⟩
  case round =>
    obtain ⟨k, b, hk, rfl, rfl, HE, HB⟩ := hrel
    by_cases hlt : k < ur.length
    · have hgM := mkU_new ur k0 ur.length k hlt hlt
      have hge : ur[k]? = some ur[k] := List.getElem?_eq_getElem hlt
      rw [getD_get dU hlt, ← HE.out] at hgM
      obtain ⟨g, cap', cur, e', hc1, hc2, hgl, hgB, hcur, hsz, hx0, hx1⟩ := own_get HO.out hgM
      rw [mkU_len] at e' hc1
      simp only [Value.slice.injEq, true_and] at e'
      obtain ⟨rfl, rfl⟩ := e'
      have hC := HO.out.cells _ (List.mem_of_getElem? hgM)
      have hkn : kAt (ur.map (·.2)) k0 (k + 1) = b + 11 * ur[k].2.cells.length + 1 := by
        rw [kAt, map_snd_get hge, HE.out]
      have hkm := kAt_mono (ur.map (·.2)) k0 (k + 1) ur.length hlt
      have hk0 := kAt_mono (ur.map (·.2)) k0 0 k (Nat.zero_le _)
      rw [hkn] at hkm
      rw [← HE.out] at hk0
      have hb2 : b + 11 * ur[k].2.cells.length + 1 ≤ 99999990 := Nat.le_trans hkm HbM.out
      have hb0 : 0 < b := Nat.lt_of_lt_of_le h0 hk0
      have HEn : Hid (b + 11 * ur[k].2.cells.length + 1 = kAt (ur.map (·.2)) k0 (k + 1)) := hkn.symm
      have hlc : ur[k].2.cells.length ≤ 9999999 := by omega
      have hgw : g < wr.heap.size := Nat.lt_of_lt_of_le hgl HB.out.size
      have hCw : OwnC wr B ur[k].1 (mkCs ur[k].2.cells.length b) := ⟨hC.1, hC.2.elim Or.inl (fun ⟨g, cap, cur, e, hg, hc, q⟩ => Or.inr ⟨g, cap, cur, e, hg, (HB.out.block g (Array.getElem?_eq_some_iff.1 hc).1).trans hc, q⟩)⟩
      have HM := Hid.intro (heldTblCellS_any ur[k].1 ur[k].2.cells.length b hb0 (by omega) B wr hCw)
      have hcw := (HB.out.block g hgl).trans hcur
      have L0 := (cellB hcw).trans hx0
      have L1 := (cellB hcw).trans hx1
      obtain ⟨pa, pcap, hpf, _⟩ := row_form hCw
      dsimp only [mkR] at L0 L1
      rw [hpf] at L0 HM
      have Hcw := Hid.intro hcw
      clear hge hgM hkn hkm hk0 HE hC hCw hx0 hx1 hcur hpf hcw
      generalize ur[k].2.cells.length = n at HM HEn hb2 hlc L1 L0
      have hnn : (0 : Int) ≤ (b : Int) + 11 * (n : Int) := by omega
      have hn0 : ¬ ((b : Int) + 11 * (n : Int)) < 0 := by omega
      have hdec : (((b : Int) + 11 * (n : Int)) % 3 == 0) = decide ((b + 11 * n) % 3 = 0) := by
        rw [Bool.eq_iff_iff]; simp; omega
      have hdec2 : decide (((b : Int) + 11 * (n : Int)) % 3 = 0) = decide ((b + 11 * n) % 3 = 0) := by
        rw [Bool.eq_iff_iff]; simp; omega
      generalize decide ((b + 11 * n) % 3 = 0) = bb at L1 hdec hdec2
      go_wp2_with fail
      refine HM.out.mono ?_
      rintro e w1 ⟨rfl, hb1⟩
      have L2 := (hb1.cell (p := ⟨g, k * 2 + 1, none⟩) hgw).trans L1
      have HB1 := Hid.intro (k_trans HB.out hb1)
      have hbx : (bb != bb) = false := by simp
      clear L1 L0 hb1 HM HB
      go_wp2
      go_roundw
      case rel => exact ⟨k + 1, b + 11 * n + 1, by omega, by go_num, by go_num, HEn, HB1⟩
      case measure => simp [intOf]; omega
    · obtain rfl : k = ur.length := by omega
      have HE2 : Hid ((b : Int) = ((kAt (ur.map (·.2)) k0 ur.length : Nat) : Int)) := by show _ = _; rw [HE.out]
      clear HE
      go_wp2
      go_ret
      exact ⟨congrArg (fun x : Int => Ending.returned (Value.int .i64 x)) HE2.out, HB.out⟩

set_option maxRecDepth 100000 in
set_option maxHeartbeats 2000000 in
theorem heldTblTable_any (a1 a2 : Option Addr) (c1 c2 : Nat) (hd ft gp : Value) (cols : List (Int × Int)) (ur : List (Value × R)) (hb : kEnd cols ur ≤ 99999990) (B D : Nat) (w : World) (h : OwnD w B D (.slice a1 cols.length c1) (.slice a2 ur.length c2) (mkCols cols.length 1) (mkU ur (1 + 2 * cols.length) ur.length)) :
    Calls Try.prog 11 #[.agg #[.slice a1 cols.length c1, hd, ft, .slice a2 ur.length c2, gp], .int .i64 1] w fun e w' => e = .returned (.int .i64 ((kEnd cols ur : Nat) : Int)) ∧ Below w.heap.size w w' := by
  have hX := newestB w (.cells #[.slice a1 cols.length c1, hd, ft, .slice a2 ur.length c2, gp] 30)
  have hK := k_alloc (Below.refl w.heap.size w) (.cells #[.slice a1 cols.length c1, hd, ft, .slice a2 ur.length c2, gp] 30)
  have hkm := kAt_mono (ur.map (·.2)) (1 + 2 * cols.length) 0 ur.length (Nat.zero_le _)
  have hkc : 1 + 2 * cols.length ≤ 99999990 := Nat.le_trans hkm hb
  have HD := Hid.intro (h.kept hK)
  have HX := Hid.intro hX
  have HKb := Hid.intro hK
  clear h hkm hX hK
  go_enter Try.func11, Try.ntmps11
  go_upto_region 1 with fail
  generalize w.alloc (.cells #[.slice a1 cols.length c1, hd, ft, .slice a2 ur.length c2, gp] 30) = W0 at HD HX HKb ⊢
  have z0 := cellB (p := 0) HX.out
  have z3 := cellB (p := 3) HX.out
  have HM := Hid.intro (heldTblColS_any (.slice a1 cols.length c1) cols.length 1 (by omega) B W0 HD.out.1)
  have HM2 := Hid.intro (heldTblRowS_any (.slice a2 ur.length c2) ur (1 + 2 * cols.length) (by omega) hb B W0 HD.out.2.1)
  have hke : (0 : Int) ≤ ((kEnd cols ur : Nat) : Int) := by omega
  have HeE : Hid (kAt (ur.map (·.2)) (1 + 2 * cols.length) ur.length = kEnd cols ur) := rfl
  rw [HeE.out] at HM2
  generalize hkE : kEnd cols ur = ke at HM2 hke hb
  have HkE := Hid.intro hkE
  clear hkE
  have hk1 : ¬ (1 + 2 * (cols.length : Int)) < 0 := by omega
  have hk2 : ¬ (ke : Int) < 0 := by omega
  go_wp2_with fail
  refine HM.out.mono ?_
  rintro e w1 ⟨rfl, rfl⟩
  clear HM z0
  go_wp2_with fail
  refine HM2.out.mono ?_
  rintro e w2 ⟨rfl, hb2⟩
  have HB2 := Hid.intro (k_trans HKb.out hb2)
  clear HM2 z3 hb2
  go_wp2
  go_ret
  exact ⟨by rw [HkE.out]; rfl, HB2.out⟩
end Go.Proofs.Ytojogjlblgcioap
namespace Go.Proofs.Ytojogjlblgcioap
open Go.RowKit

def upd (L : Nat → Bool) (i : Nat) : Nat → Bool := fun j => if j = i then true else L j
theorem upd_ne {L : Nat → Bool} {i j : Nat} (h : (j == i) = false) : upd L i j = L j := by
  unfold upd
  rw [if_neg (fun e => by rw [e] at h; simp at h)]
theorem un {L : Nat → Bool} {i j : Nat} {b : Bool} (h : upd L i j = b) (e : (j == i) = false := by rfl) : L j = b := by rwa [upd_ne e] at h
theorem upd_self {L : Nat → Bool} {i : Nat} : upd L i i = true := by simp [upd]
/-- each operation hangs on operations ahead of it alone -/
def aheadB (ops : Array Oper) : Bool := (List.range ops.size).all fun i => ((ops[i]?).map fun o => o.after.all fun e => !Region.binds .any e || decide (e.on < i)).getD true
theorem ahead_all {ops : Array Oper} (h : aheadB ops = true) {listed : Array Bool} (hs : listed.size = ops.size) (hr : Region.ready .any ops listed = []) : ∀ i, i < ops.size → listed.getD i false = true := by
  intro i
  induction i using Nat.strongRecOn with
  | ind i ih =>
    intro hi
    cases hl : listed.getD i false with
    | true => rfl
    | false =>
      exfalso
      have ho : ops[i]? = some ops[i] := Array.getElem?_eq_getElem hi
      have h1 := List.all_eq_true.1 h i (List.mem_range.2 hi)
      rw [ho] at h1
      simp only [Option.map_some, Option.getD_some] at h1
      have hm : i ∈ Region.ready .any ops listed := by
        unfold Region.ready
        rw [List.mem_filter]
        refine ⟨List.mem_range.2 hi, ?_⟩
        have h2 : listed.getD i true = false := by
          rw [Array.getD_eq_getD_getElem?, Array.getElem?_eq_getElem (by omega)] at hl ⊢
          exact hl
        rw [h2, ho]
        simp only [Bool.not_false, Bool.true_and, Option.map_some, Option.getD_some]
        rw [Array.all_eq_true_iff_forall_mem]
        intro e he
        have h3 := Array.all_eq_true_iff_forall_mem.1 h1 e he
        cases hbn : Region.binds .any e with
        | false => simp
        | true =>
          rw [hbn] at h3
          have h4 : e.on < i := by simpa using h3
          rw [ih e.on h4 (by omega)]
          simp
      rw [hr] at hm
      cases hm
theorem listed_set {listed : Array Bool} {i : Nat} (hi : i < listed.size) : (fun j => (listed.setIfInBounds i true).getD j false) = upd (fun j => listed.getD j false) i := by
  funext j
  unfold upd
  rw [Array.getD_eq_getD_getElem?]
  by_cases h : j = i
  · subst h; simp [hi]
  · rw [if_neg h, Array.getElem?_setIfInBounds_ne (Ne.symm h)]
    exact (Array.getD_eq_getD_getElem? ..).symm
theorem count_set {l : List Bool} {i : Nat} (h : l[i]? = some false) : (l.set i true).count false + 1 = l.count false := by
  induction l generalizing i with
  | nil => simp at h
  | cons a t ih =>
    cases i with
    | zero => simp at h; subst h; simp
    | succ i =>
      simp at h
      have := ih h
      rw [List.set_cons_succ, List.count_cons, List.count_cons]
      omega

section
variable {P : Program} {ops : Array Oper} {Q : Exit → Act → World → Prop} (J : (Nat → Bool) → Act → World → Prop)
theorem wpAny_inv (hord : aheadB ops = true)
    (hs : ∀ (L : Nat → Bool) (a : Act) (w : World) (i : Nat) (o : Oper), J L a w → ops[i]? = some o → L i = false → (∀ e ∈ o.after, Region.binds .any e = true → L e.on = true) →
      ∀ K : Act → World → Prop, (∀ a' w', J (upd L i) a' w' → K a' w') → if Region.wanted o (yielded ops a.tmps) = true then o.wp P a w K Q else K (a.put o.dst undef) w)
    (hd : ∀ (L : Nat → Bool) (a : Act) (w : World), J L a w → (∀ i, i < ops.size → L i = true) → Q .normal a w) :
    ∀ (fuel : Nat) (listed : Array Bool) (a : Act) (w : World), listed.size = ops.size → listed.toList.count false ≤ fuel → J (fun j => listed.getD j false) a w → wpAny P .any ops Q fuel listed a w := by
  intro fuel
  induction fuel with
  | zero =>
    intro listed a w hsz hc hJ
    have hall : ∀ i, i < ops.size → listed.getD i false = true := by
      intro i hi
      have h0 : listed.toList.count false = 0 := by omega
      have hi' : i < listed.size := by omega
      have := List.count_eq_zero.1 h0
      have hm : listed[i] ∈ listed.toList := by simp
      rw [Array.getD_eq_getD_getElem?, Array.getElem?_eq_getElem hi', Option.getD_some]
      cases hv : listed[i] with
      | true => rfl
      | false => rw [hv] at hm; exact absurd hm this
    refine ⟨?_, hd _ _ _ hJ hall⟩
    unfold Region.ready
    rw [List.filter_eq_nil_iff]
    intro i hi
    have hi2 := List.mem_range.1 hi
    have := hall i hi2
    have h3 : listed.getD i true = true := by
      rw [Array.getD_eq_getD_getElem?, Array.getElem?_eq_getElem (by omega)] at this ⊢
      exact this
    rw [h3]; simp
  | succ fuel ih =>
    intro listed a w hsz hc hJ
    refine ⟨fun hr => hd _ _ _ hJ (ahead_all hord hsz hr), fun i hi => ?_⟩
    unfold Region.ready at hi
    rw [List.mem_filter] at hi
    obtain ⟨h1, h2⟩ := hi
    have hlt := List.mem_range.1 h1
    have ho : ops[i]? = some ops[i] := Array.getElem?_eq_getElem hlt
    rw [ho] at h2
    simp only [Option.map_some, Option.getD_some, Bool.and_eq_true] at h2
    obtain ⟨h3, h4⟩ := h2
    have hil : i < listed.size := by omega
    have hv : listed[i] = false := by
      rw [Array.getD_eq_getD_getElem?, Array.getElem?_eq_getElem hil] at h3
      simpa using h3
    have hfi : listed.getD i false = false := by rw [Array.getD_eq_getD_getElem?, Array.getElem?_eq_getElem hil, hv]; rfl
    have hstep := hs _ a w i ops[i] hJ ho hfi (fun e he hb => by
      have := Array.all_eq_true_iff_forall_mem.1 h4 e he
      rw [hb] at this
      simpa using this) (wpAny P .any ops Q fuel (listed.setIfInBounds i true)) (fun a' w' hJ' => ih _ a' w' (by simpa using hsz) (by
        have := count_set (l := listed.toList) (i := i) (by rw [Array.getElem?_toList, Array.getElem?_eq_getElem hil, hv])
        rw [Array.toList_setIfInBounds]
        omega) (by rw [listed_set hil]; exact hJ'))
    unfold wpOp
    rw [ho]
    dsimp only
    split
    · rename_i hw; rw [if_pos hw] at hstep; exact .inl hstep
    · rename_i hw; rw [if_neg hw] at hstep; exact hstep
theorem wp_region_inv {id : Nat} {a : Act} {w : World} (hm : P.follows .mixedOrders = true) (hord : aheadB ops = true)
    (hs : ∀ (L : Nat → Bool) (a : Act) (w : World) (i : Nat) (o : Oper), J L a w → ops[i]? = some o → L i = false → (∀ e ∈ o.after, Region.binds .any e = true → L e.on = true) →
      ∀ K : Act → World → Prop, (∀ a' w', J (upd L i) a' w' → K a' w') → if Region.wanted o (yielded ops a.tmps) = true then o.wp P a w K Q else K (a.put o.dst undef) w)
    (hd : ∀ (L : Nat → Bool) (a : Act) (w : World), J L a w → (∀ i, i < ops.size → L i = true) → Q .normal a w)
    (h0 : J (fun _ => false) a w.drew) : (Code.region id ops true).wp P Q a w := by
  refine wp_region_any hm (wpAny_inv J hord hs hd _ _ _ _ (by simp) (by simp) ?_)
  have e : (fun j => (Array.replicate ops.size false).getD j false) = fun _ => false := by
    funext j
    rw [Array.getD_eq_getD_getElem?]
    by_cases h : j < ops.size <;> simp [h]
  rw [e]
  exact h0
end
end Go.Proofs.Ytojogjlblgcioap
namespace Go.Proofs.Ytojogjlblgcioap
open Go.RowKit

/-- whether operation j hangs on operation i -/
def edgeB (ops : Array Oper) (j i : Nat) : Bool := ((ops[j]?).map fun o => o.after.toList.any fun e => Region.binds .any e && e.on == i).getD false
def Closed (ops : Array Oper) (L : Nat → Bool) : Prop := ∀ j i, edgeB ops j i = true → L i = false → L j = false
theorem Closed.next {ops : Array Oper} {L : Nat → Bool} (h : Closed ops L) {k : Nat} {o : Oper} (ho : ops[k]? = some o) (ha : ∀ e ∈ o.after, Region.binds .any e = true → L e.on = true) : Closed ops (upd L k) := by
  intro j i he hi
  have hik : i ≠ k := fun e => by subst e; rw [upd_self] at hi; cases hi
  have hi' : L i = false := by simpa [upd, hik] using hi
  have hj := h j i he hi'
  have hjk : j ≠ k := by
    intro e
    subst e
    unfold edgeB at he
    rw [ho] at he
    simp only [Option.map_some, Option.getD_some, List.any_eq_true, Bool.and_eq_true, beq_iff_eq] at he
    obtain ⟨e, he1, he2, he3⟩ := he
    have := ha e (by simpa using he1) he2
    rw [he3, hi'] at this
    cases this
  simpa [upd, hjk] using hj
theorem wp_region_inv2 {P : Program} {ops : Array Oper} {Q : Exit → Act → World → Prop} (J : (Nat → Bool) → Act → World → Prop) {id : Nat} {a : Act} {w : World} (hm : P.follows .mixedOrders = true) (hord : aheadB ops = true)
    (hs : ∀ (L : Nat → Bool) (a : Act) (w : World) (i : Nat) (o : Oper), J L a w → Closed ops L → ops[i]? = some o → L i = false → (∀ e ∈ o.after, Region.binds .any e = true → L e.on = true) →
      ∀ K : Act → World → Prop, (∀ a' w', J (upd L i) a' w' → K a' w') → if Region.wanted o (yielded ops a.tmps) = true then o.wp P a w K Q else K (a.put o.dst undef) w)
    (hd : ∀ (L : Nat → Bool) (a : Act) (w : World), J L a w → (∀ i, i < ops.size → L i = true) → Q .normal a w)
    (h0 : J (fun _ => false) a w.drew) : (Code.region id ops true).wp P Q a w :=
  wp_region_inv (fun L a w => J L a w ∧ Closed ops L) hm hord
    (fun L a w i o hJ ho hi ha K hK => hs L a w i o hJ.1 hJ.2 ho hi ha K (fun a' w' hJ' => hK a' w' ⟨hJ', hJ.2.next ho ha⟩))
    (fun L a w hJ hall => hd L a w hJ.1 hall) ⟨h0, fun _ _ _ _ => rfl⟩
end Go.Proofs.Ytojogjlblgcioap
