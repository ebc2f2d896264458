/- PROVED: at every two borders the law FnExactBrdBeats returns true (the program's BrdBeats answers as the model's) and its arguments read as before; no condition. -/
import Derived.Test.YtkppaokkopfklaxKit
import Derived.Test.YtkppaokkopfklaxBtI
import Derived.Test.YtkppaokkopfklaxBtS
import Derived.Test.YtkppaokkopfklaxQuietB
import Derived.Test.YtkppaokkopfklaxMem
import Derived.Deep.DeepCutAuto
import Derived.Deep.RegionWith
import Derived.WalkKit
import Derived.ProofKit
import Derived.OpenShut
import Derived.ShutString
import Derived.ChangeOld
import Derived.Below
import Derived.Lib.SmallJoins
namespace Go.Proofs.Ytkppaokkopfklax.fnExactBrdBeats
open Go.ChangeShapes Go.WideShapes Go.ChangeAt Go.RowKit Go.Joins Go.Deep
open Go.ChangeMaps (open_string shut_string)

theorem cellsL : Try.prog.cellsOf 23 = 2 := by kernel_rfl

theorem toBrdLine_any (a b : Int) (w : World) :
    Calls Try.prog 10 #[.agg #[.int .i64 a, .int .i64 b]] w fun e w' => e = .returned (.agg #[.int .i64 a, .int .i64 b]) ∧ Below w.heap.size w w' := by
  go_enter Try.func10, Try.ntmps10
  go_wp2
  refine bodyPost_ret (v := .agg #[.int .i64 a, .int .i64 b]) (by simp [results, Try.results10, go_sem]) rfl ⟨rfl, ?_⟩
  exact k_alloc (k_alloc (k_alloc (Below.refl _ _) _) _) _

set_option maxRecDepth 100000 in
set_option maxHeartbeats 2000000 in
theorem walk (a b c d : Int) (w : World) :
    Calls Try.prog 3 #[.agg #[.int .i64 a, .int .i64 b], .agg #[.int .i64 c, .int .i64 d]] w fun e w' => e = .returned (.bool true) ∧ Below w.heap.size w w' := by
  have hmx : Try.prog.follows .mixedOrders = true := by kernel_rfl
  have X1 := newestB w (.cells #[.int .i64 a, .int .i64 b] 23)
  have hs1 : (w.alloc (.cells #[.int .i64 a, .int .i64 b] 23)).heap.size = w.heap.size + 1 := by simp
  have X2 := newestB (w.alloc (.cells #[.int .i64 a, .int .i64 b] 23)) (.cells #[.int .i64 c, .int .i64 d] 23)
  have X1' := (Below.heap_alloc (w.alloc (.cells #[.int .i64 a, .int .i64 b] 23)) (.cells #[.int .i64 c, .int .i64 d] 23) w.heap.size (by omega)).trans X1
  rw [hs1] at X2
  have HK := Hid.intro (k_alloc (k_alloc (Below.refl w.heap.size w) (.cells #[.int .i64 a, .int .i64 b] 23)) (.cells #[.int .i64 c, .int .i64 d] 23))
  go_enter Try.func3, Try.ntmps3
  go_upto_region 1 with fail
  generalize (w.alloc (.cells #[.int .i64 a, .int .i64 b] 23)).alloc (.cells #[.int .i64 c, .int .i64 d] 23) = W at X2 X1' HK ⊢
  have l1 : w.heap.size < W.heap.size := (Array.getElem?_eq_some_iff.1 X1').1
  have l2 : w.heap.size + 1 < W.heap.size := (Array.getElem?_eq_some_iff.1 X2).1
  have hne := bw_some W
  have m0 := bw_cell (a := ⟨w.heap.size, 0, none⟩) l1 (cellB (p := 0) X1')
  have m1 := bw_cell (a := ⟨w.heap.size, 1, none⟩) l1 (cellB (p := 1) X1')
  have m2 := bw_cell (a := ⟨w.heap.size + 1, 0, none⟩) l2 (cellB (p := 0) X2)
  have m3 := bw_cell (a := ⟨w.heap.size + 1, 1, none⟩) l2 (cellB (p := 1) X2)
  have HX := Hid.intro (And.intro X1' X2)
  have KT := Hid.intro (fun (W : World) (p : BW W) (x y : Int) => bw_of (toBrdLine_any x y p.u))
  have KS := Hid.intro (fun (W : World) (p : BW W) => bw_of ((specBrdBeats a b c d p.u).mono (fun _ _ ⟨h1, h2⟩ => And.intro h1 (by rw [h2]; exact k_alloc (k_alloc (Below.refl _ _) _) _))))
  have KI := Hid.intro (fun (W : World) (p : BW W) => bw_of (implBrdBeats a b c d p.u))
  generalize beatsB a b c d = y at KS KI
  clear X1 X2 X1' hs1
  refine wp_region_quiet_below hmx (by kernel_rfl) ?_
  repeat (go_big_quiet_step (first | (go_at_call 10; refine KT.out _ _ _ _) | (go_at_call 9; refine KS.out _ _)))
  refine wpQuiet_nil ?_
  intro W2 hw'
  obtain ⟨⟨Wx, hW2⟩, hw''⟩ := hw'
  subst hw''
  have HK2 := Hid.intro (k_trans HK.out hW2)
  have Y1 := (hW2.block _ l1).trans HX.out.1
  have Y2 := (hW2.block _ l2).trans HX.out.2
  clear m0 m1 m2 m3 hW2 hne
  have r1 : w.heap.size < W2.heap.size := (Array.getElem?_eq_some_iff.1 Y1).1
  have r2 : w.heap.size + 1 < W2.heap.size := (Array.getElem?_eq_some_iff.1 Y2).1
  have hne := bw_some W2
  have m0 := bw_cell (a := ⟨w.heap.size, 0, none⟩) r1 (cellB (p := 0) Y1)
  have m1 := bw_cell (a := ⟨w.heap.size, 1, none⟩) r1 (cellB (p := 1) Y1)
  have m2 := bw_cell (a := ⟨w.heap.size + 1, 0, none⟩) r2 (cellB (p := 0) Y2)
  have m3 := bw_cell (a := ⟨w.heap.size + 1, 1, none⟩) r2 (cellB (p := 1) Y2)
  clear Y1 Y2 l1 l2
  go_upto_region 2 with fail
  refine wp_region_quiet_below hmx (by kernel_rfl) ?_
  repeat (go_big_quiet_step (first | (go_at_call 10; refine KT.out _ _ _ _) | (go_at_call 11; refine KI.out _ _)))
  refine wpQuiet_nil ?_
  intro W3 hw'
  obtain ⟨⟨Wy, hW3⟩, hw''⟩ := hw'
  subst hw''
  have HK3 := Hid.intro (k_trans HK2.out hW3)
  clear m0 m1 m2 m3 hW3 hne
  cases y <;> (go_wp2; go_ret; exact ⟨rfl, HK3.out⟩)

set_option linter.unusedVariables false in
set_option maxRecDepth 100000 in
theorem lifted (os : Os) (started : os.Started) (H : Type) (enc : TypeId × Value → H) :
    ReturnsInHanded {} Try.checked os 3 .any (Rows.fnExactBrdBeatsSpec.pre6 enc Try.prog Try.f3 Rows.fnExactBrdBeatsRow.domain false) (Rows.fnExactBrdBeatsSpec.post enc Try.prog Try.f3 false true false false) := by
  refine returnsInHanded_of_change (C := Try.checked) own started (by kernel_rfl) Try.func3
    (ChangeSpec.witness6 (enc := enc) (C := Try.checked) false ⟨#[], #[.agg #[.int .i64 0, .int .i64 0], .agg #[.int .i64 0, .int .i64 0]], []⟩ 8 (by kernel_rfl) (by kernel_rfl) (by kernel_rfl) (by kernel_rfl)) ?_
  intro W base args ds gs before hval0 hW hcnd _
  have hval : ∀ (j : Nat) t v, Try.f3.params[j]? = some t → args[j]? = some v → Value.okWide Try.prog W .any base t v := hval0
  have hW' := hW
  obtain ⟨p, q, hA0, hV, rfl, hfz, hnd⟩ := hW
  have hA : DataW.TrodAll enc Try.prog W 0 (fun _ => true) true Try.f3.params.toList args.toList ds p := hA0
  rw [Try.params3] at hA hval
  obtain ⟨v0, vs0, d0, ds0, p0, q0, hargs, rfl, rfl, h0, r0⟩ := trodAll_cons hA
  obtain ⟨v1, vs1, d1, ds1, p1, q1, rfl, rfl, rfl, h1, r1⟩ := trodAll_cons r0
  obtain ⟨rfl, rfl, rfl⟩ := trodAll_nil r1
  obtain rfl : args = #[v0, v1] := by cases args; simp_all
  obtain ⟨rfl, rfl⟩ := trodVars_none hV
  have k0 := h0
  have lt0 : ∀ x ∈ p0, x.block < W.heap.size := by obtain ⟨m, hm⟩ := k0; exact DataW.trod_lt m _ _ _ hm
  have k1 := h1
  have lt1 : ∀ x ∈ p1, x.block < W.heap.size := by obtain ⟨m, hm⟩ := k1; exact DataW.trod_lt m _ _ _ hm
  obtain ⟨c0, c1, y0, y1, m, rfl, rfl, rfl, hy0, hy1⟩ := open_agg2 Try.underlying23 (by kernel_rfl) cellsL (hval 0 23 v0 rfl rfl) h0
  obtain ⟨a, e0, rfl, wa⟩ := DataW.trod_int Try.underlying3 hy0
  obtain ⟨b, e1, rfl, wb⟩ := DataW.trod_int Try.underlying3 hy1
  simp at e0 e1
  subst e0 e1
  obtain ⟨c2, c3, y2, y3, m2, rfl, rfl, rfl, hy2, hy3⟩ := open_agg2 Try.underlying23 (by kernel_rfl) cellsL (hval 1 23 v1 rfl rfl) h1
  obtain ⟨c, e2, rfl, wc⟩ := DataW.trod_int Try.underlying3 hy2
  obtain ⟨d, e3, rfl, wd⟩ := DataW.trod_int Try.underlying3 hy3
  simp at e2 e3
  subst e2 e3
  clear hA0 hval0
  refine (walk a b c d W).mono fun e W' ⟨he, bel⟩ => ?_
  subst he
  exact ⟨_, rfl, _, _, _, [], _, [], hW', trodAll_mk1 (shut_bool Try.underlying4 _), (trodAll_cons_mk (Below.trod laidOut (by kernel_rfl) (of_decide_eq_true (by kernel_rfl)) k0 bel lt0) (trodAll_cons_mk (Below.trod laidOut (by kernel_rfl) (of_decide_eq_true (by kernel_rfl)) k1 bel lt1) trodAll_mk0)), rfl, bel.frame _, fun h => by cases h⟩

theorem proved : Rows.FnExactBrdBeatsSaid :=
  OpenClaim.holds_of_wide 3 Try.f3 rfl rfl rfl rfl rfl rfl rfl ⟨rfl, rfl, rfl, rfl, rfl⟩ rfl rfl rfl rfl rfl (by kernel_rfl) Try.func3 (by kernel_rfl)
    (of_decide_eq_true (by kernel_rfl)) (by unfold Func.isWrapper; first | (rw [if_pos (by decide +kernel)]; kernel_rfl) | (rw [if_neg (by decide +kernel)]; exact ⟨rfl, rfl⟩))
    (fun os started H enc _ => lifted os started H enc)
#print axioms proved
end Go.Proofs.Ytkppaokkopfklax.fnExactBrdBeats
