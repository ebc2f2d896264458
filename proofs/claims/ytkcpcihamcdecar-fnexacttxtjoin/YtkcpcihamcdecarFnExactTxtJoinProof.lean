/- PROVED: at every list of texts the law FnExactTxtJoin returns true (the program's TxtJoin answers as the model's, and leaves its argument as it was) and its argument reads as before; no condition. -/
import Derived.Test.YtkcpcihamcdecarOpenTbl
import Derived.Test.YtkcpcihamcdecarJoinI
import Derived.WalkKit
import Derived.ProofKit
import Derived.OpenShut
import Derived.ShutString
import Derived.ChangeOld
import Derived.Below
import Derived.Lib.SmallJoins
namespace Go.Proofs.Ytkcpcihamcdecar.fnExactTxtJoin
open Go.ChangeShapes Go.WideShapes Go.ChangeAt Go.RowKit Go.Joins Go.Deep
open Go.ChangeMaps (open_string shut_string)

theorem openStrs {H : Type} {enc : TypeId × Value → H} {w : World} {spare : Nat → Bool} {held : Bool} {fuel : Nat} {cs : List Value} {x : DataW H × List MemPlace} (h : DataW.trod enc Try.prog w 0 spare held fuel 22 cs = some x) :
    ∃ (v : Value) (l : List ByteArray), cs = [v] ∧ StrsAt w 0 v l := by
  refine open_at (α := ByteArray) dS Try.underlying22 cStr (by omega) (fun x b o => w.cell? ⟨b, o, none⟩ = some (.string x) ∧ x.size ≤ maxLen) (fun n b o cs' y hy hc => ?_) h
  obtain ⟨s, rfl, _, hs⟩ := DataW.trod_string Try.underlying9 hy
  exact ⟨s, hc 0 (by omega), hs⟩

set_option maxRecDepth 100000 in
set_option maxHeartbeats 2000000 in
theorem walk (v : Value) (ss : List ByteArray) (w : World) (h : StrsAt w 0 v ss) :
    Calls Try.prog 5 #[v] w fun e w' => e = .returned (.bool true) ∧ Below w.heap.size w w' := by
  obtain ⟨a, cap, rfl, _⟩ := At.form h
  have H := Hid.intro h
  clear h
  by_cases hn : totS ss ≤ 1048576
  · have hl : ss.length ≤ 1048576 := by unfold totS at hn; omega
    have hg : ¬ (1048576 : Int) - (totS ss : Int) < 0 := by omega
    have HL := Hid.intro (leftOf_pos (n := 1048576) (m := totS ss) (by omega))
    go_enter Try.func5, Try.ntmps5
    go_wp2_with fail
    refine (szStringS_any _ ss _ (by omega) (by omega) _ H.out).mono ?_
    rw [HL.out]
    rintro e w1 ⟨rfl, rfl⟩
    go_wp2_with fail
    refine (toStringS_any _ ss hl _ H.out).mono ?_
    rintro e w2 ⟨a2, c2, rfl, hS2, hb2⟩
    have K2 := Hid.intro hb2
    have S2 := Hid.intro hS2
    clear hb2 hS2
    go_wp2_with fail
    refine (specTxtJoin _ ss hn _ S2.out).mono ?_
    rintro e w3 ⟨rfl, rfl⟩
    go_wp2_with fail
    refine (toStringS_any _ ss hl _ (H.out.kept K2.out)).mono ?_
    rintro e w4 ⟨a4, c4, rfl, hS4, hb4⟩
    have K4 := Hid.intro (k_trans K2.out hb4)
    have S4 := Hid.intro hS4
    clear hb4 hS4
    go_wp2_with fail
    refine (implTxtJoin _ ss hn _ S4.out).mono ?_
    rintro e w5 ⟨rfl, hb5⟩
    have K5 := Hid.intro (k_trans K4.out hb5)
    have S5 := Hid.intro (S4.out.kept hb5)
    clear hb5
    go_wp2_with fail
    refine (toStringS_any _ ss hl _ (H.out.kept K5.out)).mono ?_
    rintro e w6 ⟨a6, c6, rfl, hS6, hb6⟩
    have K6 := Hid.intro (k_trans K5.out hb6)
    have S6 := Hid.intro hS6
    have X6 := Hid.intro (S5.out.kept hb6)
    clear hb6 hS6
    go_wp2_with fail
    refine (eqStringS_any _ _ ss _ X6.out S6.out).mono ?_
    rintro e w7 ⟨rfl, n7, rfl⟩
    go_wp2
    go_ret
    exact ⟨rfl, k_drewN K6.out n7⟩
  · have HL := Hid.intro (leftOf_neg (n := 1048576) (m := totS ss) (by omega))
    go_enter Try.func5, Try.ntmps5
    go_wp2_with fail
    refine (szStringS_any _ ss _ (by omega) (by omega) _ H.out).mono ?_
    rw [HL.out]
    rintro e w1 ⟨rfl, rfl⟩
    go_wp2
    go_ret
    exact ⟨rfl, Below.refl _ _⟩

set_option linter.unusedVariables false in
set_option maxRecDepth 100000 in
theorem lifted (os : Os) (started : os.Started) (H : Type) (enc : TypeId × Value → H) :
    ReturnsInHanded {} Try.checked os 5 .any (Rows.fnExactTxtJoinSpec.pre6 enc Try.prog Try.f5 Rows.fnExactTxtJoinRow.domain false) (Rows.fnExactTxtJoinSpec.post enc Try.prog Try.f5 false true false false) := by
  refine returnsInHanded_of_change (C := Try.checked) own started (by kernel_rfl) Try.func5
    (ChangeSpec.witness6 (enc := enc) (C := Try.checked) false ⟨#[], #[.slice none 0 0], []⟩ 8 (by kernel_rfl) (by kernel_rfl) (by kernel_rfl) (by kernel_rfl)) ?_
  intro W base args ds gs before hval0 hW hcnd _
  have hval : ∀ (j : Nat) t v, Try.f5.params[j]? = some t → args[j]? = some v → Value.okWide Try.prog W .any base t v := hval0
  have hW' := hW
  obtain ⟨p, q, hA0, hV, rfl, hfz, hnd⟩ := hW
  have hA : DataW.TrodAll enc Try.prog W 0 (fun _ => true) true Try.f5.params.toList args.toList ds p := hA0
  rw [Try.params5] at hA hval
  obtain ⟨v0, vs0, d0, ds0, p0, q0, hargs, rfl, rfl, h0, r0⟩ := trodAll_cons hA
  obtain ⟨rfl, rfl, rfl⟩ := trodAll_nil r0
  obtain rfl : args = #[v0] := by cases args; simp_all
  obtain ⟨rfl, rfl⟩ := trodVars_none hV
  have k0 := h0
  have lt0 : ∀ x ∈ p0, x.block < W.heap.size := by obtain ⟨m, hm⟩ := k0; exact DataW.trod_lt m _ _ _ hm
  obtain ⟨a0, len0, cap0, rfl⟩ := okWide_slice Try.underlying22 (hval 0 22 v0 rfl rfl)
  obtain ⟨fuel0, hf0⟩ := h0
  obtain ⟨v, ss, hv, hss⟩ := openStrs hf0
  obtain rfl : v = .slice a0 len0 cap0 := by simpa [Value.cells] using hv.symm
  clear hA0 hval0
  refine (walk _ ss W hss).mono fun e W' ⟨he, bel⟩ => ?_
  subst he
  exact ⟨_, rfl, _, _, _, [], _, [], hW', trodAll_mk1 (shut_bool Try.underlying4 _), (trodAll_cons_mk (Below.trod laidOut (by kernel_rfl) (of_decide_eq_true (by kernel_rfl)) k0 bel lt0) trodAll_mk0), rfl, bel.frame _, fun h => by cases h⟩

theorem proved : Rows.FnExactTxtJoinSaid :=
  OpenClaim.holds_of_wide 5 Try.f5 rfl rfl rfl rfl rfl rfl rfl ⟨rfl, rfl, rfl, rfl, rfl⟩ rfl rfl rfl rfl rfl (by kernel_rfl) Try.func5 (by kernel_rfl)
    (of_decide_eq_true (by kernel_rfl)) (by unfold Func.isWrapper; first | (rw [if_pos (by decide +kernel)]; kernel_rfl) | (rw [if_neg (by decide +kernel)]; exact ⟨rfl, rfl⟩))
    (fun os started H enc _ => lifted os started H enc)
#print axioms proved
end Go.Proofs.Ytkcpcihamcdecar.fnExactTxtJoin
