/- PROVED: at every table and every number of a column the law FnExactColSaid returns true (the program's ColSaid answers as the model's, and leaves its argument as it was) and its arguments read as before; no condition. -/
import Derived.Test.YtgcobajekffmoavOpenTbl
import Derived.Test.YtgcobajekffmoavTblSz
import Derived.Test.YtgcobajekffmoavTblTo
import Derived.Test.YtgcobajekffmoavTblEq
import Derived.Test.YtgcobajekffmoavColSd
import Derived.Deep.RegionWith
import Derived.Deep.DeepCutAuto
import Derived.WalkKit
import Derived.ProofKit
import Derived.OpenShut
import Derived.ShutString
import Derived.ChangeOld
import Derived.Below
import Derived.Lib.SmallJoins
namespace Go.Proofs.Ytgcobajekffmoav.fnExactColSaid
open Go.ChangeShapes Go.WideShapes Go.ChangeAt Go.RowKit Go.Joins Go.Deep
open Go.ChangeMaps (open_string shut_string)

theorem five_cells {w : World} {g : Nat} {x0 x1 x2 x3 x4 : Value} {t : TypeId} (h : w.heap[g]? = some (.cells #[x0, x1, x2, x3, x4] t)) :
    w.cell? ⟨g, 0, none⟩ = some x0 ∧ w.cell? ⟨g, 1, none⟩ = some x1 ∧ w.cell? ⟨g, 2, none⟩ = some x2 ∧ w.cell? ⟨g, 3, none⟩ = some x3 ∧ w.cell? ⟨g, 4, none⟩ = some x4 :=
  ⟨cellB h, cellB h, cellB h, cellB h, cellB h⟩
theorem two_cells {w : World} {g : Nat} {x0 x1 : Value} {t : TypeId} (h : w.heap[g]? = some (.cells #[x0, x1] t)) : w.cell? ⟨g, 0, none⟩ = some x0 ∧ w.cell? ⟨g, 1, none⟩ = some x1 := ⟨cellB h, cellB h⟩
theorem kb {w w' : World} {g : Nat} {o : Obj} (h : w.heap[g]? = some o) (hb : Below w.heap.size w w') : w'.heap[g]? = some o := (hb.block g (Array.getElem?_eq_some_iff.1 h).1).trans h
theorem ka {w : World} {g : Nat} {o : Obj} (h : w.heap[g]? = some o) (q : Obj) : (w.alloc q).heap[g]? = some o := kb h (k_alloc (Below.refl _ _) q)
set_option maxRecDepth 100000 in
set_option maxHeartbeats 4000000 in
theorem walk (v : Value) (t : T) (q : Int) (w : World) (h : TblAt w 0 v t) :
    Calls Try.prog 4 #[v, .int .i64 q] w fun e w' => e = .returned (.bool true) ∧ Below w.heap.size w w' := by
  obtain ⟨vc, vr, rfl, hc, hr⟩ := h
  obtain ⟨ac, cc, rfl, _⟩ := At.form hc
  obtain ⟨ar, cr, rfl, _⟩ := At.form hr
  have K0 := Hid.intro (k_alloc (Below.refl w.heap.size w) (.cells #[.slice ac t.cols.length cc, .int .i64 t.head, .int .i64 t.foot, .slice ar t.rows.length cr, .int .i64 t.gap] 25))
  have A0 := Hid.intro (newestB w (.cells #[.slice ac t.cols.length cc, .int .i64 t.head, .int .i64 t.foot, .slice ar t.rows.length cr, .int .i64 t.gap] 25))
  have C0 := Hid.intro hc
  have R0 := Hid.intro hr
  clear hc hr
  have T0 : Hid (∀ w', Below w.heap.size w w' → TblAt w' 0 (.agg #[.slice ac t.cols.length cc, .int .i64 t.head, .int .i64 t.foot, .slice ar t.rows.length cr, .int .i64 t.gap]) t) := fun w' k => ⟨_, _, rfl, C0.out.kept k, R0.out.kept k⟩
  clear C0 R0
  by_cases hn : totT t ≤ 1048576
  · have hg : ¬ (1048576 : Int) - (totT t : Int) < 0 := by omega
    have HL := Hid.intro (leftOf_pos (n := 1048576) (m := totT t) (by omega))
    go_enter Try.func4, Try.ntmps4
    go_wp2_with fail
    refine (szTblTable_any _ t _ (T0.out _ K0.out)).mono ?_
    rw [HL.out]
    rintro e w1 ⟨rfl, hb1⟩
    have K1 := Hid.intro (k_trans K0.out hb1)
    have A1 := Hid.intro (kb A0.out hb1)
    clear hb1 A0 K0 HL
    obtain ⟨m0, m1, m2, m3, m4⟩ := five_cells A1.out
    go_wp2_with fail
    refine (toTblTable_any _ t hn _ (T0.out _ K1.out)).mono ?_
    rintro e w2 ⟨ac2, cc2, ar2, cr2, rfl, hC2, hR2, hb2⟩
    have K2 := Hid.intro (k_trans K1.out hb2)
    have A2 := Hid.intro (kb A1.out hb2)
    have KS := Hid.intro (specColSaid ac2 ar2 cc2 cr2 t q _ hC2 hR2)
    have HI := Hid.intro (fun ac ar cc cr W => implColSaid ac ar cc cr t q W (z := 0))
    clear hb2 hC2 hR2 A1 K1 m0 m1 m2 m3 m4
    obtain ⟨p, hp⟩ : ∃ p, sdT t q = p := ⟨_, rfl⟩
    rw [hp] at KS HI
    clear hp
    go_wp2_with fail
    refine KS.out.mono ?_
    rintro e w3 ⟨rfl, hb3⟩
    have K4 := Hid.intro (k_alloc (k_trans K2.out hb3) (.cells #[.int .i64 p.1, .int .i64 p.2] 36))
    have A4 := Hid.intro (ka (kb A2.out hb3) (.cells #[.int .i64 p.1, .int .i64 p.2] 36))
    have B4 := Hid.intro (newestB w3 (.cells #[.int .i64 p.1, .int .i64 p.2] 36))
    have C3 := Hid.intro (kb A2.out hb3)
    obtain ⟨m0, m1, m2, m3, m4⟩ := five_cells C3.out
    have hzz : w.heap.size < w3.heap.size := (Array.getElem?_eq_some_iff.1 C3.out).1
    clear hb3 A2 K2 KS
    go_wp2_with fail
    refine (toTblTable_any _ t hn _ (T0.out _ K4.out)).mono ?_
    rintro e w5 ⟨ac5, cc5, ar5, cr5, rfl, hC5, hR5, hb5⟩
    generalize w3.heap.size = g0 at B4 hb5 hzz ⊢
    have X : Hid (w5.heap[w.heap.size]? = some (.cells #[.slice ac t.cols.length cc, .int .i64 t.head, .int .i64 t.foot, .slice ar t.rows.length cr, .int .i64 t.gap] 25)) := kb A4.out hb5
    have Y : Hid (w5.heap[g0]? = some (.cells #[.int .i64 p.1, .int .i64 p.2] 36)) := kb B4.out hb5
    have K5 := Hid.intro (k_trans K4.out hb5)
    have C5 := Hid.intro hC5
    have R5 := Hid.intro hR5
    clear hb5 hC5 hR5 A4 B4 K4 C3 m0 m1 m2 m3 m4
    have X6 := Hid.intro (ka X.out (.cells #[.slice ac5 t.cols.length cc5, .int .i64 t.head, .int .i64 t.foot, .slice ar5 t.rows.length cr5, .int .i64 t.gap] 31))
    have Y6 := Hid.intro (ka Y.out (.cells #[.slice ac5 t.cols.length cc5, .int .i64 t.head, .int .i64 t.foot, .slice ar5 t.rows.length cr5, .int .i64 t.gap] 31))
    have Z6 := Hid.intro (newestB w5 (.cells #[.slice ac5 t.cols.length cc5, .int .i64 t.head, .int .i64 t.foot, .slice ar5 t.rows.length cr5, .int .i64 t.gap] 31))
    have K6 := Hid.intro (k_alloc K5.out (.cells #[.slice ac5 t.cols.length cc5, .int .i64 t.head, .int .i64 t.foot, .slice ar5 t.rows.length cr5, .int .i64 t.gap] 31))
    have C6 := Hid.intro ((C5.out.kept (k_alloc (Below.refl _ _) (.cells #[.slice ac5 t.cols.length cc5, .int .i64 t.head, .int .i64 t.foot, .slice ar5 t.rows.length cr5, .int .i64 t.gap] 31))).base (Nat.zero_le _))
    have R6 := Hid.intro ((R5.out.kept (k_alloc (Below.refl _ _) (.cells #[.slice ac5 t.cols.length cc5, .int .i64 t.head, .int .i64 t.foot, .slice ar5 t.rows.length cr5, .int .i64 t.gap] 31))).base (Nat.zero_le _))
    clear X Y K5 C5 R5
    go_wp2_with fail
    refine (HI.out ac5 ar5 cc5 cr5 _ C6.out R6.out).mono ?_
    rintro e w7 ⟨rfl, hb7⟩
    generalize w5.heap.size = x0 at Z6 ⊢
    have X7 := kb X6.out hb7
    have Y7 := kb Y6.out hb7
    have Z7 := kb Z6.out hb7
    have C7 := C6.out.kept hb7
    have R7 := R6.out.kept hb7
    have K7 := k_trans K6.out hb7
    clear hb7 X6 Y6 Z6 C6 R6 K6 HI
    have X8 := Hid.intro (ka X7 (.cells #[.int .i64 p.1, .int .i64 p.2] 36))
    have Y8 := Hid.intro (ka Y7 (.cells #[.int .i64 p.1, .int .i64 p.2] 36))
    have Z8 := Hid.intro (ka Z7 (.cells #[.int .i64 p.1, .int .i64 p.2] 36))
    have G8 := Hid.intro (newestB w7 (.cells #[.int .i64 p.1, .int .i64 p.2] 36))
    have K8 := Hid.intro (k_alloc K7 (.cells #[.int .i64 p.1, .int .i64 p.2] 36))
    have C8 := Hid.intro (C7.kept (k_alloc (Below.refl _ _) (.cells #[.int .i64 p.1, .int .i64 p.2] 36)))
    have R8 := Hid.intro (R7.kept (k_alloc (Below.refl _ _) (.cells #[.int .i64 p.1, .int .i64 p.2] 36)))
    clear X7 Y7 Z7 C7 R7 K7
    obtain ⟨y0, y1⟩ := two_cells Y8.out
    obtain ⟨u0, u1⟩ := two_cells G8.out
    have hyb : g0 < w7.heap.size + 1 := by have := (Array.getElem?_eq_some_iff.1 Y8.out).1; simpa using this
    go_upto_region 8 with fail
    generalize w7.alloc (.cells #[.int .i64 p.1, .int .i64 p.2] 36) = W8 at X8 Y8 Z8 G8 K8 C8 R8 y0 y1 u0 u1 ⊢
    generalize w7.heap.size = g1 at G8 u0 u1 ⊢
    go_wp2_with fail
    refine (eqTblCol_any _ _ _).mono ?_
    rintro e w9 ⟨rfl, hb9⟩
    have X9 := Hid.intro (kb X8.out hb9)
    have Z9 := Hid.intro (kb Z8.out hb9)
    have C9 := Hid.intro (C8.out.kept hb9)
    have R9 := Hid.intro (R8.out.kept hb9)
    have K9 := Hid.intro (k_trans K8.out hb9)
    clear hb9 X8 Y8 Z8 C8 R8 K8 G8 y0 y1 u0 u1 hyb hzz
    obtain ⟨m0, m1, m2, m3, m4⟩ := five_cells X9.out
    obtain ⟨n0, n1, n2, n3, n4⟩ := five_cells Z9.out
    go_wp2_with fail
    go_region_with (first
      | (go_at_call 9; refine (toTblTable_any _ t hn _ (T0.out _ (k_drew K9.out))).mono ?_; rintro e w6 ⟨ac6, cc6, ar6, cr6, rfl, hC6, hR6, hb6⟩; have K6 := Hid.intro (k_trans (k_drew K9.out) hb6); have C6 := Hid.intro hC6; have R6 := Hid.intro hR6; have D6 := Hid.intro (C9.out.kept (k_trans (k_drew (Below.refl _ _)) hb6)); have E6 := Hid.intro (R9.out.kept (k_trans (k_drew (Below.refl _ _)) hb6)); have A6 := kb X9.out (k_trans (k_drew (Below.refl _ _)) hb6); have B6 := kb Z9.out (k_trans (k_drew (Below.refl _ _)) hb6); obtain ⟨r0, r1, r2, r3, r4⟩ := five_cells A6; obtain ⟨s0, s1, s2, s3, s4⟩ := five_cells B6; clear hb6 hC6 hR6 A6 B6)
      | (go_at_call 11; refine (eqTblTable_any _ _ t _ ⟨_, _, rfl, D6.out, E6.out⟩ ⟨_, _, rfl, C6.out, R6.out⟩).mono ?_; rintro e w7 ⟨rfl, hb7⟩; have K7 := Hid.intro (k_trans K6.out hb7); clear hb7))
    all_goals
      go_wp2
      go_ret
      exact ⟨rfl, K7.out⟩
  · have HL := Hid.intro (leftOf_neg (n := 1048576) (m := totT t) (by omega))
    go_enter Try.func4, Try.ntmps4
    go_wp2_with fail
    refine (szTblTable_any _ t _ (T0.out _ K0.out)).mono ?_
    rw [HL.out]
    rintro e w1 ⟨rfl, hb1⟩
    have K1 := Hid.intro (k_trans K0.out hb1)
    clear hb1
    go_wp2
    go_ret
    exact ⟨rfl, K1.out⟩
theorem arr_of {cs : Array Value} {l : List Value} (h : cs.toList = l) : cs = l.toArray := by cases cs; simpa using h

set_option linter.unusedVariables false in
set_option maxRecDepth 100000 in
theorem lifted (os : Os) (started : os.Started) (H : Type) (enc : TypeId × Value → H) :
    ReturnsInHanded {} Try.checked os 4 .any (Rows.fnExactColSaidSpec.pre6 enc Try.prog Try.f4 Rows.fnExactColSaidRow.domain false) (Rows.fnExactColSaidSpec.post enc Try.prog Try.f4 false true false false) := by
  refine returnsInHanded_of_change (C := Try.checked) own started (by kernel_rfl) Try.func4
    (ChangeSpec.witness6 (enc := enc) (C := Try.checked) false ⟨#[], #[.agg #[.slice none 0 0, .int .i64 0, .int .i64 0, .slice none 0 0, .int .i64 0], .int .i64 0], []⟩ 8 (by kernel_rfl) (by kernel_rfl) (by kernel_rfl) (by kernel_rfl)) ?_
  intro W base args ds gs before hval0 hW hcnd _
  have hval : ∀ (j : Nat) t v, Try.f4.params[j]? = some t → args[j]? = some v → Value.okWide Try.prog W .any base t v := hval0
  have hW' := hW
  obtain ⟨p, q, hA0, hV, rfl, hfz, hnd⟩ := hW
  have hA : DataW.TrodAll enc Try.prog W 0 (fun _ => true) true Try.f4.params.toList args.toList ds p := hA0
  rw [Try.params4] at hA hval
  obtain ⟨v0, vs0, d0, ds0, p0, q0, hargs, rfl, rfl, h0, r0⟩ := trodAll_cons hA
  obtain ⟨v1, vs1, d1, ds1, p1, q1, rfl, rfl, rfl, h1, r1⟩ := trodAll_cons r0
  obtain ⟨rfl, rfl, rfl⟩ := trodAll_nil r1
  obtain rfl : args = #[v0, v1] := by cases args; simp_all
  obtain ⟨rfl, rfl⟩ := trodVars_none hV
  have k0 := h0
  have lt0 : ∀ x ∈ p0, x.block < W.heap.size := by obtain ⟨m, hm⟩ := k0; exact DataW.trod_lt m _ _ _ hm
  have k1 := h1
  have lt1 : ∀ x ∈ p1, x.block < W.heap.size := by obtain ⟨m, hm⟩ := k1; exact DataW.trod_lt m _ _ _ hm
  obtain ⟨cs0, rfl, hsz0⟩ := okWide_struct Try.underlying25 (hval 0 25 v0 rfl rfl)
  obtain ⟨fuel0, hf0⟩ := h0
  obtain ⟨t, ht⟩ := openTblL (by simpa [Value.cells] using hf0)
  obtain ⟨q, rfl, rfl, rfl, wq⟩ := open_int Try.underlying3 (hval 1 3 v1 rfl rfl) h1
  clear hA0 hval0
  refine (walk _ t q W (by simpa using ht)).mono fun e W' ⟨he, bel⟩ => ?_
  subst he
  exact ⟨_, rfl, _, _, _, [], _, [], hW', trodAll_mk1 (shut_bool Try.underlying4 _), (trodAll_cons_mk (Below.trod laidOut (by kernel_rfl) (of_decide_eq_true (by kernel_rfl)) k0 bel lt0) (trodAll_cons_mk (Below.trod laidOut (by kernel_rfl) (of_decide_eq_true (by kernel_rfl)) k1 bel lt1) trodAll_mk0)), rfl, bel.frame _, fun h => by cases h⟩

theorem proved : Rows.FnExactColSaidSaid :=
  OpenClaim.holds_of_wide 4 Try.f4 rfl rfl rfl rfl rfl rfl rfl ⟨rfl, rfl, rfl, rfl, rfl⟩ rfl rfl rfl rfl rfl (by kernel_rfl) Try.func4 (by kernel_rfl)
    (of_decide_eq_true (by kernel_rfl)) (by unfold Func.isWrapper; first | (rw [if_pos (by decide +kernel)]; kernel_rfl) | (rw [if_neg (by decide +kernel)]; exact ⟨rfl, rfl⟩))
    (fun os started H enc _ => lifted os started H enc)
#print axioms proved
end Go.Proofs.Ytgcobajekffmoav.fnExactColSaid
