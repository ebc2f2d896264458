/-
  PROVED HERE: what the program's EdtRow answers: of a table that is ok the table with one row more, or the table as it is, in memory of its own; else nothing; nothing that was in memory is turned. Also: what the model's BrdOk answers at every border. Also: what the model's CellOk answers at every cell whose text is a Go string.
-/
import Derived.Test.YtggmjiddadjilakB9
import Derived.Test.YtggmjiddadjilakB4
import Derived.Test.YtggmjiddadjilakB10
import Derived.Test.YtggmjiddadjilakB8
import Derived.Test.YtggmjiddadjilakB6
import Derived.Test.YtggmjiddadjilakB3
namespace Go.Proofs.Ytggmjiddadjilak
open Go.RowKit

/-- a table in memory of its own, none of it in one block -/
def OwnN (w : World) (B n : Nat) (vc vr : Value) (cols : List (Int × Int)) (ur : List (Value × R)) : Prop :=
  OwnCol w B vc cols ∧ OwnR w B vr ur ∧ vc.ownBlock ≠ some n ∧ vr.ownBlock ≠ some n ∧ ∀ q ∈ ur, q.1.ownBlock ≠ some n
theorem OwnN.other {W W' : World} {B n : Nat} {vc vr : Value} {cols : List (Int × Int)} {ur : List (Value × R)} (h : OwnN W B n vc vr cols ur) (hk : ∀ k, k ≠ n → W'.heap[k]? = W.heap[k]?) : OwnN W' B n vc vr cols ur := by
  obtain ⟨h1, h2, h3, h4, h5⟩ := h
  have key : ∀ {e : TypeId} {sz : Nat} {v : Value} {m : Nat} {xs : List Value}, W.ownsRow B e sz v m xs → v.ownBlock ≠ some n → W'.ownsRow B e sz v m xs := fun h hv => by
    refine ⟨h.1, h.2.elim Or.inl (fun ⟨g, cap, cur, e, hg, hc, q⟩ => Or.inr ⟨g, cap, cur, e, hg, ?_, q⟩)⟩
    exact (hk g (fun e' => hv (by rw [e, e']; rfl))).trans hc
  exact ⟨key h1 h3, ⟨key h2.own h4, fun p hp => key (h2.cells p hp) (h5 p hp), h2.apart⟩, h3, h4, h5⟩
theorem row_not {w : World} {B : Nat} {e e' : TypeId} {sz : Nat} {v : Value} {m : Nat} {xs : List Value} (h : w.ownsRow B e sz v m xs) {n : Nat} {arr : Array Value} (hn : w.heap[n]? = some (.cells arr e')) (he : e ≠ e') : v.ownBlock ≠ some n := fun hb => by
  rcases row_ne_block h hn he with e1 | e1
  · rw [e1] at hb; cases hb
  · exact e1 hb
theorem flat_ins (x : Value × R) : ∀ (i : Nat) (ur : List (Value × R)), (ur.take i ++ x :: ur.drop i).flatMap rowVs = (ur.flatMap rowVs).take (i * 2) ++ rowVs x ++ (ur.flatMap rowVs).drop (i * 2)
  | 0, ur => by simp
  | i + 1, [] => by simp
  | i + 1, q :: ur => by
    have := flat_ins x i ur
    have e2 : (i + 1) * 2 = i * 2 + 1 + 1 := by omega
    rw [List.take_succ_cons, List.drop_succ_cons, List.cons_append, List.flatMap_cons, this, List.flatMap_cons, e2]
    simp [rowVs]
theorem own_one {w : World} {B : Nat} {vr : Value} {ur : List (Value × R)} (h : OwnR w B vr ur) : ∀ u ∈ ur.flatMap rowVs, u.oneCell' = true := by
  intro u hu
  obtain ⟨p, hp, hm⟩ := List.mem_flatMap.1 hu
  simp only [rowVs, List.mem_cons, List.not_mem_nil, or_false] at hm
  rcases hm with rfl | rfl
  · rcases (h.cells p hp).2 with ⟨e, _⟩ | ⟨g, cap, cur, e, _⟩ <;> rw [e] <;> rfl
  · rfl
/-- one row without cells between the rows of one table -/
theorem own_ins1 {w W9 : World} {B D : Nat} {vc vr v9 : Value} {cols : List (Int × Int)} {ur : List (Value × R)} {k g : Nat} (h : OwnD w B D vc vr cols ur) (hv : vr.ownBlock = some g) (hG : w.grownBy W9 (some g)) {m : Nat} (hm : m = (ur.take k ++ (Value.slice none 0 0, ⟨[], false⟩) :: ur.drop k).length)
    (hO : W9.ownsRow B 37 2 v9 m ((ur.take k ++ (Value.slice none 0 0, ⟨[], false⟩) :: ur.drop k).flatMap rowVs)) {xb : Nat} {arr : Array Value} (hxb : W9.heap[xb]? = some (.cells arr 26)) (p : Nat) (u : Value) {n : Nat} {arn : Array Value} (hn : W9.heap[n]? = some (.cells arn 26)) :
    OwnN (W9.setCell ⟨xb, p, none⟩ u) B n vc v9 cols (ur.take k ++ (Value.slice none 0 0, ⟨[], false⟩) :: ur.drop k) := by
  subst hm
  have hnn : ∀ u : Value, u.ownBlock = none ∨ u.ownBlock ≠ none := fun u => by rcases hb : u.ownBlock with _ | b; exact .inl rfl; exact .inr (by simp)
  have K1 : Off 0 none (some g) w W9 := Off.grown hG
  have hc := row_off h.1 K1 (Nat.zero_le _) (hnn vc) (by rw [← hv]; exact row_ne h.1 h.2.1.own (by decide))
  have hq : ∀ q ∈ ur, OwnC W9 B q.1 q.2.cells := fun q hq => row_off (h.2.1.cells q hq) K1 (Nat.zero_le _) (hnn _) (by rw [← hv]; exact row_ne (h.2.1.cells q hq) h.2.1.own (by decide))
  have hsub : ∀ q, q ∈ ur.take k ++ (Value.slice none 0 0, (⟨[], false⟩ : R)) :: ur.drop k → q ∈ ur ∨ q = (Value.slice none 0 0, ⟨[], false⟩) := fun q hm => by
    rcases List.mem_append.1 hm with hm | hm
    · exact .inl (List.mem_of_mem_take hm)
    · rcases List.mem_cons.1 hm with hm | hm
      · exact .inr hm
      · exact .inl (List.mem_of_mem_drop hm)
  refine ⟨row_put9 hc hxb (by decide) p u, ⟨row_put9 hO hxb (by decide) p u, fun q hm => ?_, ?_⟩, row_not hc hn (by decide), row_not hO hn (by decide), fun q hm => ?_⟩
  · rcases hsub q hm with hm | rfl
    · exact row_put9 (hq q hm) hxb (by decide) p u
    · exact ⟨rfl, .inl ⟨rfl, rfl⟩⟩
  · have ha := h.2.1.apart
    rw [← List.take_append_drop k ur, List.pairwise_append] at ha
    rw [List.pairwise_append, List.pairwise_cons]
    refine ⟨ha.1, ⟨fun q _ => .inl rfl, ha.2.1⟩, fun q hq q' hq' => ?_⟩
    rcases List.mem_cons.1 hq' with rfl | hq'
    · exact hnn _
    · exact ha.2.2 q hq q' hq'
  · rcases hsub q hm with hm | rfl
    · exact row_not (hq q hm) hn (by decide)
    · intro e; cases e
theorem plc_bounds {t : T} (h : tblB t = true) : 0 ≤ t.head ∧ t.head ≤ 8 ∧ 0 ≤ t.foot ∧ t.foot ≤ 8 ∧ 1 ≤ t.rows.length ∧ t.rows.length ≤ 8 := by
  simp only [tblB, partsB, colsB, inB, Bool.and_eq_true, decide_eq_true_eq, List.all_eq_true] at h
  obtain ⟨h1, ⟨h2, h3⟩, _⟩ := h
  omega

set_option maxRecDepth 100000 in
set_option maxHeartbeats 4000000 in
theorem implEdtRow (ac ar : Option Addr) (cc cr : Nat) (t : T) (at' : Int) (w : World) {z : Nat} (hc : ColsAt w z (.slice ac t.cols.length cc) t.cols) (hr : RowsAt w z (.slice ar t.rows.length cr) t.rows) :
    Calls Try.prog 5 #[.agg #[.slice ac t.cols.length cc, .int .i64 t.head, .int .i64 t.foot, .slice ar t.rows.length cr, .int .i64 t.gap], .int .i64 at'] w fun e w' => ∃ a1 c1 a2 c2 d1 d2, e = .returned (.tuple #[.agg #[.slice a1 d1 c1, .int .i64 (edRow t at').1.head, .int .i64 (edRow t at').1.foot, .slice a2 d2 c2, .int .i64 (edRow t at').1.gap], .bool (edRow t at').2]) ∧ OwnT w' w.heap.size (.slice a1 d1 c1) (.slice a2 d2 c2) (edRow t at').1 ∧ Below w.heap.size w w' := by
  have hmf : ∀ (fn : Fn) (first cap : Array Value) (W : World), (Instr.makeFunc fn first cap).run Try.prog W = .ok (.func fn first cap) W := fun _ _ _ _ => rfl
  obtain ⟨W0, hW0⟩ : ∃ W0, ((w.alloc (.cells #[.slice ac t.cols.length cc, .int .i64 t.head, .int .i64 t.foot, .slice ar t.rows.length cr, .int .i64 t.gap] 26)).alloc (.cells #[.int .i64 at'] 3)).alloc (.cells #[.slice none 0 0, .int .i64 0, .int .i64 0, .slice none 0 0, .int .i64 0] 26) = W0 := ⟨_, rfl⟩
  have K0 : Below w.heap.size w W0 := by rw [← hW0]; exact k_alloc (k_alloc (k_alloc (Below.refl _ _) _) _) _
  have T0 : W0.heap[w.heap.size]? = some (.cells #[.slice ac t.cols.length cc, .int .i64 t.head, .int .i64 t.foot, .slice ar t.rows.length cr, .int .i64 t.gap] 26) := by rw [← hW0]; exact alloc_at (alloc_at (newestB _ _))
  have T2 : W0.heap[w.heap.size + 1]? = some (.cells #[.int .i64 at'] 3) := by rw [← hW0]; exact alloc_at (alloc_new (by simp))
  have T4 : W0.heap[w.heap.size + 1 + 1]? = some (.cells #[.slice none 0 0, .int .i64 0, .int .i64 0, .slice none 0 0, .int .i64 0] 26) := by rw [← hW0]; exact alloc_new (by simp)
  have hsz : w.heap.size + 1 + 1 < W0.heap.size := (Array.getElem?_eq_some_iff.1 T4).1
  have KO := Hid.intro (implCopyOf ac ar cc cr t W0 (hc.kept K0) (hr.kept K0))
  have HTx := Hid.intro (txM_at hr)
  have HK0 := Hid.intro K0
  obtain ⟨b0, b1, b2, b3, b4⟩ := fiveO T0
  have HT2 := Hid.intro T2
  have HT4 := Hid.intro T4
  clear hc hr K0 T0 T2 T4
  go_enter Try.func5, Try.ntmps5
  go_upto_region 1 with fail
  clear hW0
  have hl4 : w.heap.size ≤ w.heap.size + 1 + 1 := by omega
  generalize w.heap.size + 1 + 1 = bz at HT4 hsz hl4 ⊢
  generalize w.heap.size + 1 = ba at HT2 ⊢
  go_wp2_with fail
  refine KO.out.mono ?_
  rintro e w1 ⟨hcase, hb1⟩
  have hlz1 := Nat.lt_of_lt_of_le hsz hb1.size
  replace HT2 := Hid.intro ((hb1.block _ (Array.getElem?_eq_some_iff.1 HT2.out).1).trans HT2.out)
  replace HT4 := Hid.intro ((hb1.block _ (Array.getElem?_eq_some_iff.1 HT4.out).1).trans HT4.out)
  replace HK0 := Hid.intro (k_trans HK0.out hb1)
  clear KO b0 b1 b2 b3 b4
  rcases hcase with ⟨htk, rfl⟩ | ⟨htk, a1, c1, a2, c2, rfl, hO1⟩
  · have HE : Hid (edRow t at' = (zT, false)) := by show _ = _; rw [edRow, if_neg (by rw [htk]; simp)]
    replace HT4 := Hid.intro (alloc_at (o := (.cells #[.slice none 0 0, .int .i64 0, .int .i64 0, .slice none 0 0, .int .i64 0] 26)) HT4.out)
    replace HK0 := Hid.intro (k_alloc HK0.out (.cells #[.slice none 0 0, .int .i64 0, .int .i64 0, .slice none 0 0, .int .i64 0] 26))
    have HX : Hid ((w1.alloc (.cells #[.slice none 0 0, .int .i64 0, .int .i64 0, .slice none 0 0, .int .i64 0] 26)).heap[w1.heap.size]? = some (.cells #[.slice none 0 0, .int .i64 0, .int .i64 0, .slice none 0 0, .int .i64 0] 26)) := newestB _ _
    clear HT2 hb1 htk
    go_upto_region 2 with fail
    generalize w1.alloc (.cells #[.slice none 0 0, .int .i64 0, .int .i64 0, .slice none 0 0, .int .i64 0] 26) = W1 at HT4 HK0 HX ⊢
    generalize w1.heap.size = xb at HX hlz1 ⊢
    have KB := Hid.intro (fun p0 p1 => behindRow_no xb p0 p1 none none 0 0 0 0 0 0 0 W1 HX.out)
    obtain ⟨x0, x1, x2, x3, x4⟩ := fiveO HX.out
    go_wp2_with fail
    refine (KB.out _ _).mono ?_
    rintro e w2 ⟨rfl, hb2⟩
    replace HT4 := Hid.intro ((hb2.block _ (Array.getElem?_eq_some_iff.1 HT4.out).1).trans HT4.out)
    replace HK0 := Hid.intro (k_trans HK0.out hb2)
    obtain ⟨d0, d1, d2, d3, d4⟩ := fiveO HT4.out
    have fz : ∀ p, w2.frozen? ⟨bz, p, none⟩ = false := fun p => freeB HT4.out
    clear hb2 x0 x1 x2 x3 x4 KB
    go_wp2
    exact bodyPost_ret (v := .tuple #[.agg #[.slice none 0 0, .int .i64 0, .int .i64 0, .slice none 0 0, .int .i64 0], .bool false]) (by simp [results, Try.results5, go_sem, d0, d1, d2, d3, d4]) rfl ⟨none, 0, none, 0, 0, 0, by rw [HE.out]; rfl, by rw [HE.out]; exact ⟨[], rfl, ⟨rfl, .inl ⟨rfl, rfl⟩⟩, ⟨⟨rfl, .inl ⟨rfl, rfl⟩⟩, fun p hp => absurd hp (by simp), .nil⟩⟩, k_set (k_set (k_set (k_set (k_set HK0.out hl4 _) hl4 _) hl4 _) hl4 _) hl4 _⟩
  · obtain ⟨ur, hur, hOc, hOr⟩ := hO1
    have Hur := Hid.intro hur
    have HOD := Hid.intro ((OwnD.of hOc hOr).kept (k_alloc (Below.refl _ _) (.cells #[.slice a1 t.cols.length c1, .int .i64 t.head, .int .i64 t.foot, .slice a2 t.rows.length c2, .int .i64 t.gap] 26)))
    have HTM : Hid (RowsAt (w1.alloc (.cells #[.slice a1 t.cols.length c1, .int .i64 t.head, .int .i64 t.foot, .slice a2 t.rows.length c2, .int .i64 t.gap] 26)) W0.heap.size (.slice a2 t.rows.length c2) t.rows) := OwnT.rows (own_lt (t := t) HOD.out rfl hur) HTx.out
    replace HT2 := Hid.intro (alloc_at (o := (.cells #[.slice a1 t.cols.length c1, .int .i64 t.head, .int .i64 t.foot, .slice a2 t.rows.length c2, .int .i64 t.gap] 26)) HT2.out)
    replace HT4 := Hid.intro (alloc_at (o := (.cells #[.slice a1 t.cols.length c1, .int .i64 t.head, .int .i64 t.foot, .slice a2 t.rows.length c2, .int .i64 t.gap] 26)) HT4.out)
    replace HK0 := Hid.intro (k_alloc HK0.out (.cells #[.slice a1 t.cols.length c1, .int .i64 t.head, .int .i64 t.foot, .slice a2 t.rows.length c2, .int .i64 t.gap] 26))
    have HX : Hid ((w1.alloc (.cells #[.slice a1 t.cols.length c1, .int .i64 t.head, .int .i64 t.foot, .slice a2 t.rows.length c2, .int .i64 t.gap] 26)).heap[w1.heap.size]? = some (.cells #[.slice a1 t.cols.length c1, .int .i64 t.head, .int .i64 t.foot, .slice a2 t.rows.length c2, .int .i64 t.gap] 26)) := newestB _ _
    have HEd : Hid (edRow t at' = if plcB t at' = true then (insT t at'.toNat, true) else (t, false)) := by show _ = _; rw [edRow, if_pos htk]
    have HPB := Hid.intro (plc_bounds htk)
    clear hOc hOr hb1 htk hur HTx HTM
    go_upto_region 2 with fail
    generalize w1.alloc (.cells #[.slice a1 t.cols.length c1, .int .i64 t.head, .int .i64 t.foot, .slice a2 t.rows.length c2, .int .i64 t.gap] 26) = W1 at HT2 HT4 HK0 HX HOD ⊢
    generalize w1.heap.size = xb at HX HOD hlz1 ⊢
    obtain ⟨x0, x1, x2, x3, x4⟩ := fiveO HX.out
    have y2 := cellB (p := 0) HT2.out
    have KH := Hid.intro (within_any at' t.head ((t.rows.length : Int) - t.foot) W1)
    obtain ⟨q1, q2, q3, q4, q5, q6⟩ := HPB.out
    cases hin : inB at' t.head ((t.rows.length : Int) - t.foot) with
    | false =>
      rw [hin] at KH
      have Hpl : Hid (plcB t at' = false) := by show _ = _; rw [plcB, hin, Bool.false_and]
      clear hin
      have HE : Hid (edRow t at' = (t, false)) := by show _ = _; rw [HEd.out, if_neg (by rw [Hpl.out]; simp)]
      clear HEd Hpl
      go_wp2_with fail
      refine KH.out.mono ?_
      rintro e w2 ⟨rfl, hw2⟩
      subst hw2
      clear KH
      have KB := Hid.intro (fun p0 p1 => behindRow_no xb p0 p1 a1 a2 t.cols.length c1 t.rows.length c2 t.head t.foot t.gap _ HX.out)
      go_wp2_with fail
      refine (KB.out _ _).mono ?_
      rintro e w4 ⟨rfl, hb4⟩
      replace HT4 := Hid.intro ((hb4.block _ (Array.getElem?_eq_some_iff.1 HT4.out).1).trans HT4.out)
      replace HK0 := Hid.intro (k_trans HK0.out hb4)
      replace HOD := Hid.intro (HOD.out.kept hb4)
      obtain ⟨d0, d1, d2, d3, d4⟩ := fiveO HT4.out
      have fz : ∀ p, w4.frozen? ⟨bz, p, none⟩ = false := fun p => freeB HT4.out
      clear hb4 KB x0 x1 x2 x3 x4
      go_wp2
      exact bodyPost_ret (v := .tuple #[.agg #[.slice a1 t.cols.length c1, .int .i64 t.head, .int .i64 t.foot, .slice a2 t.rows.length c2, .int .i64 t.gap], .bool false]) (by simp [results, Try.results5, go_sem, d0, d1, d2, d3, d4]) rfl ⟨a1, c1, a2, c2, _, _, by rw [HE.out], by rw [HE.out]; exact OwnT.base (OwnT.since (own_lt HOD.out rfl Hur.out) (Since.set (Since.set (Since.set (Since.set (Since.set (Since.refl _ _) (p := ⟨bz, 0, none⟩) hsz _) (p := ⟨bz, 1, none⟩) hsz _) (p := ⟨bz, 2, none⟩) hsz _) (p := ⟨bz, 3, none⟩) hsz _) (p := ⟨bz, 4, none⟩) hsz _)) (by omega), k_set (k_set (k_set (k_set (k_set HK0.out hl4 _) hl4 _) hl4 _) hl4 _) hl4 _⟩
    | true =>
      rw [hin] at KH
      by_cases h8 : t.rows.length < 8
      · have Hpl : Hid (plcB t at' = true) := by show _ = _; rw [plcB, hin, Bool.true_and]; exact decide_eq_true h8
        have h8b : (t.rows.length < 8) = True := eq_true h8
        have h8c : ((t.rows.length : Int) < 8) = True := by simp; omega
        have HE : Hid (edRow t at' = (insT t at'.toNat, true)) := by show _ = _; rw [HEd.out, if_pos Hpl.out]
        have hin2 : t.head ≤ at' ∧ at' ≤ (t.rows.length : Int) - t.foot := by simpa only [inB, decide_eq_true_eq] using hin
        clear HEd Hpl hin
        obtain ⟨i, rfl⟩ : ∃ i : Nat, at' = (i : Int) := ⟨at'.toNat, by omega⟩
        rw [Int.toNat_natCast] at HE
        have hin1 : i ≤ t.rows.length := by omega
        clear hin2
        have hur := Hur.out
        have hul : ur.length = t.rows.length := by rw [← hur, List.length_map]
        go_wp2_with fail
        refine KH.out.mono ?_
        rintro e w2 ⟨rfl, hw2⟩
        subst hw2
        clear KH
        have hOR := HOD.out.2.1.own
        rw [hul] at hOR
        obtain ⟨g, rfl⟩ : ∃ g, a2 = some ⟨g, 0, none⟩ := by
          rcases hOR.2 with ⟨e, hz⟩ | ⟨g, cap, cur, e, _⟩
          · omega
          · simp only [Value.slice.injEq] at e
            exact ⟨g, e.1⟩
        have h1x := own_one HOD.out.2.1
        have hxl : xb < w2.heap.size := (Array.getElem?_eq_some_iff.1 HX.out).1
        have hgw := (row_lt hOR (b := g) rfl).1
        have hgl := (row_lt hOR (b := g) rfl).2
        have hBl : W0.heap.size ≤ w2.heap.size := by omega
        have hbzl : bz < w2.heap.size := (Array.getElem?_eq_some_iff.1 HT4.out).1
        have hgz : g ≠ bz := fun e => by omega
        have hgx : g ≠ xb := fun e => (row_not hOR HX.out (by decide)) (by rw [← e]; rfl)
        have KB := Hid.intro (behindRow_yes xb (.pointer (some ⟨xb, 0, none⟩)) (.pointer (some ⟨ba, 0, none⟩)) a1 t.cols.length c1 t.head t.foot t.gap w2
          (fun a3 n3 c3 W => OwnN W W0.heap.size w2.heap.size (.slice a1 t.cols.length c1) (.slice a3 n3 c3) t.cols (ur.take i ++ (Value.slice none 0 0, (⟨[], false⟩ : R)) :: ur.drop i) ∧ Below w.heap.size w W ∧ W.heap[bz]? = some (.cells #[.slice none 0 0, .int .i64 0, .int .i64 0, .slice none 0 0, .int .i64 0] 26))
          (fun a3 n3 c3 W W' ⟨p1, p2, p3⟩ hk hs ho ht hu => ⟨p1.other hk, below_other p2 (n := w2.heap.size) (by omega) hk hs ho ht hu, (hk bz (by omega)).trans p3⟩)
          ((closRow xb ba g i t.rows.length c2 W0.heap.size a1 t.cols.length c1 (.int .i64 t.head) (.int .i64 t.foot) (.int .i64 t.gap) (ur.flatMap rowVs) (w2.alloc (.cells #[.slice none 0 0, .int .i64 0, .int .i64 0, .slice none 0 0, .int .i64 0] 26)) (alloc_at HX.out) (alloc_at HT2.out) (row_kept9 hOR (k_alloc (Below.refl _ _) _)) h1x hin1 (by omega) (by simp; omega)).mono (fun e w' ⟨e1, a9, c9, W9, hg9, hc9, e2⟩ => by
            have hg9' : w2.grownBy W9 (some g) := grown_trans (grown_below (k_alloc (Below.refl _ _) (.cells #[.slice none 0 0, .int .i64 0, .int .i64 0, .slice none 0 0, .int .i64 0] 26))) hg9
            have hot9 : ∀ k, k ≠ g → k < w2.heap.size + 1 → W9.heap[k]? = (w2.alloc (.cells #[.slice none 0 0, .int .i64 0, .int .i64 0, .slice none 0 0, .int .i64 0] 26)).heap[k]? := fun k hk hl => hg9.block k (by simp; omega) (fun e => hk (Option.some.inj e))
            have hX9 : W9.heap[xb]? = some (.cells #[.slice a1 t.cols.length c1, .int .i64 t.head, .int .i64 t.foot, .slice (some ⟨g, 0, none⟩) t.rows.length c2, .int .i64 t.gap] 26) := (hot9 xb (fun e => hgx e.symm) (by omega)).trans (alloc_at HX.out)
            have hN9 : W9.heap[w2.heap.size]? = some (.cells #[.slice none 0 0, .int .i64 0, .int .i64 0, .slice none 0 0, .int .i64 0] 26) := (hot9 _ (by omega) (by omega)).trans (newestB _ _)
            have hbl : Below w.heap.size w w' := by
              rw [e2]
              exact ((HK0.out.grown hg9' (by omega) (fun q hq => by simp at hq; omega))).setCell (p := ⟨xb, 3, none⟩) (by dsimp only; omega) _
            have hfl := flat_ins (Value.slice none 0 0, (⟨[], false⟩ : R)) i ur
            rw [show rowVs (Value.slice none 0 0, (⟨[], false⟩ : R)) = [.slice none 0 0, .bool false] from rfl] at hfl
            rw [← hfl] at hc9
            refine ⟨e1, a9, t.rows.length + 1, c9, ⟨?_, hbl, ?_⟩, ?_, ?_⟩
            · rw [e2]
              exact own_ins1 HOD.out (g := g) rfl hg9' (by rw [List.length_append, List.length_cons, List.length_take, List.length_drop]; omega) hc9 hX9 3 _ hN9
            · rw [e2, Below.heap_setCell W9 ⟨xb, 3, none⟩ _ bz (by dsimp only; omega)]
              exact (hot9 bz (fun e => hgz e.symm) (by omega)).trans (alloc_at HT4.out)
            · rw [e2]
              exact setB hX9 _
            · rw [e2, Below.heap_setCell W9 ⟨xb, 3, none⟩ _ w2.heap.size (by dsimp only; omega)]
              exact hN9)))
        clear hOR h1x HT2 HK0 HOD HT4
        go_wp2_with fail
        refine KB.out.mono ?_
        rintro e w4 ⟨a9, n9, c9, rfl, hD4, hK4, hZ4⟩
        have HD4 := Hid.intro hD4
        have HK4 := Hid.intro hK4
        obtain ⟨d0, d1, d2, d3, d4⟩ := fiveO hZ4
        have fz : ∀ p, w4.frozen? ⟨bz, p, none⟩ = false := fun p => freeB hZ4
        have HUr : Hid ((ur.take i ++ (Value.slice none 0 0, (⟨[], false⟩ : R)) :: ur.drop i).map (·.2) = (insT t i).rows) := by
          show _ = _
          rw [insT, List.map_append, List.map_cons, List.map_take, List.map_drop, hur]
        clear hD4 hK4 hZ4 KB x0 x1 x2 x3 x4
        go_wp2
        exact bodyPost_ret (v := .tuple #[.agg #[.slice a1 t.cols.length c1, .int .i64 t.head, .int .i64 t.foot, .slice a9 n9 c9, .int .i64 t.gap], .bool true]) (by simp [results, Try.results5, go_sem, d0, d1, d2, d3, d4]) rfl ⟨a1, c1, a9, c9, _, _, by rw [HE.out]; rfl, by rw [HE.out]; exact OwnT.base (OwnT.since (t := insT t i) ⟨_, HUr.out, HD4.out.1, HD4.out.2.1⟩ (Since.set (Since.set (Since.set (Since.set (Since.set (Since.refl _ _) (p := ⟨bz, 0, none⟩) hsz _) (p := ⟨bz, 1, none⟩) hsz _) (p := ⟨bz, 2, none⟩) hsz _) (p := ⟨bz, 3, none⟩) hsz _) (p := ⟨bz, 4, none⟩) hsz _)) (by omega), k_set (k_set (k_set (k_set (k_set HK4.out hl4 _) hl4 _) hl4 _) hl4 _) hl4 _⟩
      · have Hpl : Hid (plcB t at' = false) := by show _ = _; rw [plcB, hin, Bool.true_and]; exact decide_eq_false h8
        have h8b : (t.rows.length < 8) = False := eq_false h8
        have h8c : ((t.rows.length : Int) < 8) = False := by simp; omega
        clear hin h8
        have HE : Hid (edRow t at' = (t, false)) := by show _ = _; rw [HEd.out, if_neg (by rw [Hpl.out]; simp)]
        clear HEd Hpl
        go_wp2_with fail
        refine KH.out.mono ?_
        rintro e w2 ⟨rfl, hw2⟩
        subst hw2
        clear KH
        have KB := Hid.intro (fun p0 p1 => behindRow_no xb p0 p1 a1 a2 t.cols.length c1 t.rows.length c2 t.head t.foot t.gap _ HX.out)
        go_wp2_with fail
        refine (KB.out _ _).mono ?_
        rintro e w4 ⟨rfl, hb4⟩
        replace HT4 := Hid.intro ((hb4.block _ (Array.getElem?_eq_some_iff.1 HT4.out).1).trans HT4.out)
        replace HK0 := Hid.intro (k_trans HK0.out hb4)
        replace HOD := Hid.intro (HOD.out.kept hb4)
        obtain ⟨d0, d1, d2, d3, d4⟩ := fiveO HT4.out
        have fz : ∀ p, w4.frozen? ⟨bz, p, none⟩ = false := fun p => freeB HT4.out
        clear hb4 KB x0 x1 x2 x3 x4
        go_wp2
        exact bodyPost_ret (v := .tuple #[.agg #[.slice a1 t.cols.length c1, .int .i64 t.head, .int .i64 t.foot, .slice a2 t.rows.length c2, .int .i64 t.gap], .bool false]) (by simp [results, Try.results5, go_sem, d0, d1, d2, d3, d4]) rfl ⟨a1, c1, a2, c2, _, _, by rw [HE.out], by rw [HE.out]; exact OwnT.base (OwnT.since (own_lt HOD.out rfl Hur.out) (Since.set (Since.set (Since.set (Since.set (Since.set (Since.refl _ _) (p := ⟨bz, 0, none⟩) hsz _) (p := ⟨bz, 1, none⟩) hsz _) (p := ⟨bz, 2, none⟩) hsz _) (p := ⟨bz, 3, none⟩) hsz _) (p := ⟨bz, 4, none⟩) hsz _)) (by omega), k_set (k_set (k_set (k_set (k_set HK0.out hl4 _) hl4 _) hl4 _) hl4 _) hl4 _⟩
end Go.Proofs.Ytggmjiddadjilak
namespace Go.Proofs.Ytggmjiddadjilak
open Go.RowKit

set_option maxRecDepth 100000 in
set_option maxHeartbeats 400000 in
theorem specBrdOk (a b : Int) (w : World) :
    Calls Try.prog 38 #[.agg #[.int .i64 a, .int .i64 b]] w fun e w' => e = .returned (.bool (brdOkB a b)) ∧ w' = w.alloc (.cells #[.int .i64 a, .int .i64 b] 56) := by
  by_cases h0 : a = 0
  · subst h0
    go_enter Try.func38, Try.ntmps38
    go_wp2
    go_ret
    exact ⟨retB (brd_zero b).symm, rfl⟩
  by_cases h4 : a = 4
  · subst h4
    go_enter Try.func38, Try.ntmps38
    go_wp2
    go_ret
    exact ⟨retB (brd_four b).symm, rfl⟩
  have e0 : (a == 0) = false := beq_eq_false_iff_ne.2 h0
  have e4 : (a == 4) = false := beq_eq_false_iff_ne.2 h4
  by_cases h : 1 ≤ a ∧ a ≤ 3
  · have hi : inB a 1 3 = true := inB_true h.1 h.2
    have HB : Hid (brdOkB a b = inB b 1 3) := brd_seen b h.1 h.2
    clear h h0 h4
    go_enter Try.func38, Try.ntmps38
    go_wp2_with (go_at_call 23; refine (l1In_any _ _ _ _).mono ?_; rintro e w' ⟨rfl, rfl⟩)
    go_ret
    exact ⟨retB HB.out.symm, rfl⟩
  · have hi : inB a 1 3 = false := inB_false h
    have HB : Hid (brdOkB a b = false) := brd_other b h0 h4 h
    clear h h0 h4
    go_enter Try.func38, Try.ntmps38
    go_wp2_with (go_at_call 23; refine (l1In_any _ _ _ _).mono ?_; rintro e w' ⟨rfl, rfl⟩)
    go_ret
    exact ⟨retB HB.out.symm, rfl⟩
end Go.Proofs.Ytggmjiddadjilak
namespace Go.Proofs.Ytggmjiddadjilak
open Go.RowKit

set_option maxRecDepth 100000 in
set_option maxHeartbeats 1000000 in
theorem specCellOk (s : ByteArray) (c r a1 b1 a2 b2 a3 b3 a4 b4 : Int) (w : World) (hs : s.size ≤ maxLen) :
    Calls Try.prog 25 #[.agg #[.string s, .int .i64 c, .int .i64 r, .int .i64 a1, .int .i64 b1, .int .i64 a2, .int .i64 b2, .int .i64 a3, .int .i64 b3, .int .i64 a4, .int .i64 b4]] w fun e w' => e = .returned (.bool (cellOkB s c r a1 b1 a2 b2 a3 b3 a4 b4)) ∧ Below w.heap.size w w' := by
  cases h0 : txtOkB s
  ·
    as_aux_lemma =>
      have HB : Hid (cellOkB s c r a1 b1 a2 b2 a3 b3 a4 b4 = false) := Hid.mk (by simp [cellOkB, h0])
      go_enter Try.func25, Try.ntmps25
      go_wp2_with (first | (go_at_call 37; refine (specTxtOk _ _ hs).mono ?_; rintro e w' ⟨rfl, rfl⟩) | (go_at_call 23; refine (l1In_any _ _ _ _).mono ?_; rintro e w' ⟨rfl, rfl⟩) | (go_at_call 38; refine (specBrdOk _ _ _).mono ?_; rintro e w' ⟨rfl, rfl⟩))
      go_ret
      exact ⟨retB HB.out.symm, by repeat (first | exact Below.refl _ _ | apply k_alloc)⟩
  cases h1 : inB c 1 4
  ·
    as_aux_lemma =>
      have HB : Hid (cellOkB s c r a1 b1 a2 b2 a3 b3 a4 b4 = false) := Hid.mk (by simp [cellOkB, h0, h1])
      go_enter Try.func25, Try.ntmps25
      go_wp2_with (first | (go_at_call 37; refine (specTxtOk _ _ hs).mono ?_; rintro e w' ⟨rfl, rfl⟩) | (go_at_call 23; refine (l1In_any _ _ _ _).mono ?_; rintro e w' ⟨rfl, rfl⟩) | (go_at_call 38; refine (specBrdOk _ _ _).mono ?_; rintro e w' ⟨rfl, rfl⟩))
      go_ret
      exact ⟨retB HB.out.symm, by repeat (first | exact Below.refl _ _ | apply k_alloc)⟩
  cases h2 : inB r 1 4
  ·
    as_aux_lemma =>
      have HB : Hid (cellOkB s c r a1 b1 a2 b2 a3 b3 a4 b4 = false) := Hid.mk (by simp [cellOkB, h0, h1, h2])
      go_enter Try.func25, Try.ntmps25
      go_wp2_with (first | (go_at_call 37; refine (specTxtOk _ _ hs).mono ?_; rintro e w' ⟨rfl, rfl⟩) | (go_at_call 23; refine (l1In_any _ _ _ _).mono ?_; rintro e w' ⟨rfl, rfl⟩) | (go_at_call 38; refine (specBrdOk _ _ _).mono ?_; rintro e w' ⟨rfl, rfl⟩))
      go_ret
      exact ⟨retB HB.out.symm, by repeat (first | exact Below.refl _ _ | apply k_alloc)⟩
  cases h3 : brdOkB a1 b1
  ·
    as_aux_lemma =>
      have HB : Hid (cellOkB s c r a1 b1 a2 b2 a3 b3 a4 b4 = false) := Hid.mk (by simp [cellOkB, h0, h1, h2, h3])
      go_enter Try.func25, Try.ntmps25
      go_wp2_with (first | (go_at_call 37; refine (specTxtOk _ _ hs).mono ?_; rintro e w' ⟨rfl, rfl⟩) | (go_at_call 23; refine (l1In_any _ _ _ _).mono ?_; rintro e w' ⟨rfl, rfl⟩) | (go_at_call 38; refine (specBrdOk _ _ _).mono ?_; rintro e w' ⟨rfl, rfl⟩))
      go_ret
      exact ⟨retB HB.out.symm, by repeat (first | exact Below.refl _ _ | apply k_alloc)⟩
  cases h4 : brdOkB a2 b2
  ·
    as_aux_lemma =>
      have HB : Hid (cellOkB s c r a1 b1 a2 b2 a3 b3 a4 b4 = false) := Hid.mk (by simp [cellOkB, h0, h1, h2, h3, h4])
      go_enter Try.func25, Try.ntmps25
      go_wp2_with (first | (go_at_call 37; refine (specTxtOk _ _ hs).mono ?_; rintro e w' ⟨rfl, rfl⟩) | (go_at_call 23; refine (l1In_any _ _ _ _).mono ?_; rintro e w' ⟨rfl, rfl⟩) | (go_at_call 38; refine (specBrdOk _ _ _).mono ?_; rintro e w' ⟨rfl, rfl⟩))
      go_ret
      exact ⟨retB HB.out.symm, by repeat (first | exact Below.refl _ _ | apply k_alloc)⟩
  cases h5 : brdOkB a3 b3
  ·
    as_aux_lemma =>
      have HB : Hid (cellOkB s c r a1 b1 a2 b2 a3 b3 a4 b4 = false) := Hid.mk (by simp [cellOkB, h0, h1, h2, h3, h4, h5])
      go_enter Try.func25, Try.ntmps25
      go_wp2_with (first | (go_at_call 37; refine (specTxtOk _ _ hs).mono ?_; rintro e w' ⟨rfl, rfl⟩) | (go_at_call 23; refine (l1In_any _ _ _ _).mono ?_; rintro e w' ⟨rfl, rfl⟩) | (go_at_call 38; refine (specBrdOk _ _ _).mono ?_; rintro e w' ⟨rfl, rfl⟩))
      go_ret
      exact ⟨retB HB.out.symm, by repeat (first | exact Below.refl _ _ | apply k_alloc)⟩
  as_aux_lemma =>
    have HB : Hid (cellOkB s c r a1 b1 a2 b2 a3 b3 a4 b4 = brdOkB a4 b4) := Hid.mk (by simp [cellOkB, h0, h1, h2, h3, h4, h5])
    go_enter Try.func25, Try.ntmps25
    go_wp2_with (first | (go_at_call 37; refine (specTxtOk _ _ hs).mono ?_; rintro e w' ⟨rfl, rfl⟩) | (go_at_call 23; refine (l1In_any _ _ _ _).mono ?_; rintro e w' ⟨rfl, rfl⟩) | (go_at_call 38; refine (specBrdOk _ _ _).mono ?_; rintro e w' ⟨rfl, rfl⟩))
    go_ret
    exact ⟨retB HB.out.symm, by repeat (first | exact Below.refl _ _ | apply k_alloc)⟩
end Go.Proofs.Ytggmjiddadjilak
