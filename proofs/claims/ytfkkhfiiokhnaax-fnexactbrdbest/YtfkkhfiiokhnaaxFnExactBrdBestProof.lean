/- PROVED: at every list of borders the law FnExactBrdBest returns true (the program's BrdBest answers as the model's, and leaves its argument as it was) and its arguments read as before; no condition. -/
import Derived.Test.YtfkkhfiiokhnaaxBbI
import Derived.Test.YtfkkhfiiokhnaaxBbS
import Derived.Test.YtfkkhfiiokhnaaxBfTo
import Derived.Test.YtfkkhfiiokhnaaxOpenFr
import Derived.WalkKit
import Derived.ProofKit
import Derived.OpenShut
import Derived.ShutString
import Derived.ChangeOld
import Derived.Below
import Derived.Lib.SmallJoins
namespace Go.Proofs.Ytfkkhfiiokhnaax.fnExactBrdBest
open Go.ChangeShapes Go.WideShapes Go.ChangeAt Go.RowKit Go.Joins Go.Deep
open Go.ChangeMaps (open_string shut_string)

set_option maxRecDepth 100000 in
set_option maxHeartbeats 2000000 in
theorem walk (v : Value) (ps : List Fr) (w : World) (h : FrsAt w 0 v ps) :
    Calls Try.prog 4 #[v] w fun e w' => e = .returned (.bool true) ∧ Below w.heap.size w w' := by
  obtain ⟨a, cap, rfl, hlen⟩ := At.form h
  have H := Hid.intro h
  clear h
  by_cases hn : ps.length ≤ 1048576
  · have hg : ¬ (1048576 : Int) - (ps.length : Nat) < 0 := by omega
    have HL := Hid.intro (leftOf_pos (n := 1048576) (m := ps.length) (by omega))
    go_enter Try.func4, Try.ntmps4
    go_wp2_with fail
    refine (szBrdFromS_any _ ps _ (by omega) (by omega) _ H.out).mono ?_
    rw [HL.out]
    rintro e w1 ⟨rfl, hb1⟩
    have K1 := Hid.intro hb1
    clear hb1
    go_wp2_with fail
    refine (toBrdFromS_any _ ps hn _ (H.out.kept K1.out)).mono ?_
    rintro e w2 ⟨a2, c2, rfl, hC2, hb2⟩
    have K2 := Hid.intro (k_trans K1.out hb2)
    have C2 := Hid.intro hC2
    clear hb2 hC2
    go_wp2_with fail
    have KI := Hid.intro (fun (v : Value) (W : World) (z : Nat) (h : FrsAt W z v ps) => implBrdBest v ps hn W h)
    refine (specBrdBest _ ps hn _ C2.out).mono ?_
    generalize bestF ps = x at KI ⊢
    rintro e w3 ⟨rfl, hb3⟩
    have K3 := Hid.intro (k_alloc (k_trans K2.out hb3) (.cells #[.int .i64 x.s, .int .i64 x.w, .int .i64 x.c] 31))
    have X3 : Hid ((w3.alloc (.cells #[.int .i64 x.s, .int .i64 x.w, .int .i64 x.c] 31)).heap[w3.heap.size]? = some (.cells #[.int .i64 x.s, .int .i64 x.w, .int .i64 x.c] 31)) := newestB _ _
    clear hb3 C2
    go_wp2_with fail
    refine (toBrdFromS_any _ ps hn _ (H.out.kept K3.out)).mono ?_
    rintro e w4 ⟨a4, c4, rfl, hC4, hb4⟩
    have K4 := Hid.intro (k_trans K3.out hb4)
    have X4 := Hid.intro ((hb4.block w3.heap.size (by simp)).trans X3.out)
    have hs4 : w3.heap.size < w4.heap.size := by have := hb4.size; simp at this; omega
    have C4 := Hid.intro hC4
    clear hb4 hC4
    go_wp2_with fail
    refine (KI.out _ _ _ C4.out).mono ?_
    rintro e w5 ⟨rfl, hb5⟩
    have K5 := Hid.intro (k_alloc (k_trans K4.out hb5) (.cells #[.int .i64 x.s, .int .i64 x.w, .int .i64 x.c] 31))
    have C5 := Hid.intro ((C4.out.kept hb5).kept (k_alloc (Below.refl _ _) (.cells #[.int .i64 x.s, .int .i64 x.w, .int .i64 x.c] 31)))
    have X5 := (hb5.block w3.heap.size hs4).trans X4.out
    have hs5 : w3.heap.size < w5.heap.size := Nat.lt_of_lt_of_le hs4 hb5.size
    obtain ⟨⟨p0, p1, p2⟩, _⟩ := cells3 X5
    clear hb5 C4 KI X5
    go_wp2_with fail
    refine (eqBrdFrom_any x _).mono ?_
    rintro e w8 ⟨rfl, hb8⟩
    have K8 := Hid.intro (k_trans K5.out hb8)
    have C8 := Hid.intro (C5.out.kept hb8)
    clear hb8 K5 C5 p0 p1 p2
    go_wp2_with fail
    refine (toBrdFromS_any _ ps hn _ (H.out.kept K8.out)).mono ?_
    rintro e w6 ⟨a6, c6, rfl, hC6, hb6⟩
    have K6 := Hid.intro (k_trans K8.out hb6)
    have C6 := Hid.intro hC6
    have D6 := Hid.intro (C8.out.kept hb6)
    clear hb6 hC6
    go_wp2_with fail
    refine (eqBrdFromS_any _ _ ps _ D6.out C6.out).mono ?_
    rintro e w7 ⟨rfl, hb7⟩
    have K7 := Hid.intro (k_trans K6.out hb7)
    clear hb7
    go_wp2
    go_ret
    exact ⟨rfl, K7.out⟩
  · have HL := Hid.intro (leftOf_neg (n := 1048576) (m := ps.length) (by omega))
    go_enter Try.func4, Try.ntmps4
    go_wp2_with fail
    refine (szBrdFromS_any _ ps _ (by omega) (by omega) _ H.out).mono ?_
    rw [HL.out]
    rintro e w1 ⟨rfl, hb1⟩
    have K1 := Hid.intro hb1
    clear hb1
    go_wp2
    go_ret
    exact ⟨rfl, K1.out⟩

set_option linter.unusedVariables false in
set_option maxRecDepth 100000 in
theorem lifted (os : Os) (started : os.Started) (H : Type) (enc : TypeId × Value → H) :
    ReturnsInHanded {} Try.checked os 4 .any (Rows.fnExactBrdBestSpec.pre6 enc Try.prog Try.f4 Rows.fnExactBrdBestRow.domain false) (Rows.fnExactBrdBestSpec.post enc Try.prog Try.f4 false true false false) := by
  refine returnsInHanded_of_change (C := Try.checked) own started (by kernel_rfl) Try.func4
    (ChangeSpec.witness6 (enc := enc) (C := Try.checked) false ⟨#[], #[.slice none 0 0], []⟩ 8 (by kernel_rfl) (by kernel_rfl) (by kernel_rfl) (by kernel_rfl)) ?_
  intro W base args ds gs before hval0 hW hcnd _
  have hval : ∀ (j : Nat) t v, Try.f4.params[j]? = some t → args[j]? = some v → Value.okWide Try.prog W .any base t v := hval0
  have hW' := hW
  obtain ⟨p, q, hA0, hV, rfl, hfz, hnd⟩ := hW
  have hA : DataW.TrodAll enc Try.prog W 0 (fun _ => true) true Try.f4.params.toList args.toList ds p := hA0
  rw [Try.params4] at hA hval
  obtain ⟨v0, vs0, d0, ds0, p0, q0, hargs, rfl, rfl, h0, r0⟩ := trodAll_cons hA
  obtain ⟨rfl, rfl, rfl⟩ := trodAll_nil r0
  obtain rfl : args = #[v0] := by cases args; simp_all
  obtain ⟨rfl, rfl⟩ := trodVars_none hV
  have k0 := h0
  have lt0 : ∀ x ∈ p0, x.block < W.heap.size := by obtain ⟨m, hm⟩ := k0; exact DataW.trod_lt m _ _ _ hm
  obtain ⟨a0, len0, cap0, rfl⟩ := okWide_slice Try.underlying28 (hval 0 28 v0 rfl rfl)
  obtain ⟨fuel0, hf0⟩ := h0
  obtain ⟨v, l, hv, hl⟩ := openFrsL hf0
  obtain rfl : v = .slice a0 len0 cap0 := by simpa [Value.cells] using hv.symm
  clear hA0 hval0
  refine (walk _ l W hl).mono fun e W' ⟨he, bel⟩ => ?_
  subst he
  exact ⟨_, rfl, _, _, _, [], _, [], hW', trodAll_mk1 (shut_bool Try.underlying4 _), (trodAll_cons_mk (Below.trod laidOut (by kernel_rfl) (of_decide_eq_true (by kernel_rfl)) k0 bel lt0) trodAll_mk0), rfl, bel.frame _, fun h => by cases h⟩

theorem proved : Rows.FnExactBrdBestSaid :=
  OpenClaim.holds_of_wide 4 Try.f4 rfl rfl rfl rfl rfl rfl rfl ⟨rfl, rfl, rfl, rfl, rfl⟩ rfl rfl rfl rfl rfl (by kernel_rfl) Try.func4 (by kernel_rfl)
    (of_decide_eq_true (by kernel_rfl)) (by unfold Func.isWrapper; first | (rw [if_pos (by decide +kernel)]; kernel_rfl) | (rw [if_neg (by decide +kernel)]; exact ⟨rfl, rfl⟩))
    (fun os started H enc _ => lifted os started H enc)
#print axioms proved
end Go.Proofs.Ytfkkhfiiokhnaax.fnExactBrdBest
