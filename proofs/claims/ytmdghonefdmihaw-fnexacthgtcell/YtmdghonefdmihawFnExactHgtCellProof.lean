/- PROVED: at every list of numbers and every cell at its place the law FnExactHgtCell returns true (the program's HgtCell answers as the model's) and its arguments read as before; no condition. -/
import Derived.Test.YtmdghonefdmihawHgtCS
import Derived.Test.YtmdghonefdmihawIntTo
import Derived.Test.YtmdghonefdmihawOpenInts
import Derived.Test.YtmdghonefdmihawOpenGc
import Derived.Deep.DeepCutAuto
import Derived.Deep.RegionWith
import Derived.WalkKit
import Derived.ProofKit
import Derived.OpenShut
import Derived.ShutString
import Derived.ChangeOld
import Derived.Below
import Derived.Lib.SmallJoins
namespace Go.Proofs.Ytmdghonefdmihaw.fnExactHgtCell
open Go.ChangeShapes Go.WideShapes Go.ChangeAt Go.RowKit Go.Joins Go.Deep
open Go.ChangeMaps (open_string shut_string)

theorem toGrdCell_any (x0 x1 x2 x3 x4 : Int) (w : World) :
    Calls Try.prog 9 #[.agg #[.int .i64 x0, .int .i64 x1, .int .i64 x2, .int .i64 x3, .int .i64 x4]] w fun e w' => e = .returned (.agg #[.int .i64 x0, .int .i64 x1, .int .i64 x2, .int .i64 x3, .int .i64 x4]) ∧ Below w.heap.size w w' := by
  go_enter Try.func9, Try.ntmps9
  go_wp2
  refine bodyPost_ret (v := .agg #[.int .i64 x0, .int .i64 x1, .int .i64 x2, .int .i64 x3, .int .i64 x4]) (by simp [results, Try.results9, go_sem]) rfl ⟨rfl, ?_⟩
  exact k_alloc (k_alloc (k_alloc (Below.refl _ _) _) _) _
/-- the cell in its box -/
def Bx (w : World) (x : GC) (W : World) : Prop := Below w.heap.size w W ∧ W.heap[w.heap.size]? = some (.cells #[.int .i64 x.row, .int .i64 x.col, .int .i64 x.rows, .int .i64 x.cols, .int .i64 x.ins] 24)
theorem Bx.kept {w W W' : World} {x : GC} (h : Bx w x W) (hb : Below W.heap.size W W') : Bx w x W' := ⟨h.1.trans (hb.mono h.1.size), (hb.block w.heap.size (Array.getElem?_eq_some_iff.1 h.2).1).trans h.2⟩
theorem Bx.at {w W : World} {x : GC} (h : Bx w x W) : W.cell? ⟨w.heap.size, 0, none⟩ = some (.int .i64 x.row) ∧ W.cell? ⟨w.heap.size, 1, none⟩ = some (.int .i64 x.col) ∧ W.cell? ⟨w.heap.size, 2, none⟩ = some (.int .i64 x.rows) ∧ W.cell? ⟨w.heap.size, 3, none⟩ = some (.int .i64 x.cols) ∧ W.cell? ⟨w.heap.size, 4, none⟩ = some (.int .i64 x.ins) :=
  ⟨cellB h.2, cellB h.2, cellB h.2, cellB h.2, cellB h.2⟩
set_option maxRecDepth 100000 in
set_option maxHeartbeats 2000000 in
theorem walk (v : Value) (l : List Int) (x : GC) (hx : GOk x) (w : World) (h : IntsAt w v l) :
    Calls Try.prog 6 #[v, .agg #[.int .i64 x.row, .int .i64 x.col, .int .i64 x.rows, .int .i64 x.cols, .int .i64 x.ins]] w fun e w' => e = .returned (.bool true) ∧ Below w.heap.size w w' := by
  obtain ⟨a, cap, rfl, hlen⟩ := h.form
  have K0 := k_alloc (Below.refl w.heap.size w) (.cells #[.int .i64 x.row, .int .i64 x.col, .int .i64 x.rows, .int .i64 x.cols, .int .i64 x.ins] 24)
  by_cases hbig : (1048576 : Int) < (l.length : Int)
  · have HK := Hid.intro K0
    clear h K0
    go_enter Try.func6, Try.ntmps6
    go_wp2
    go_ret
    exact ⟨rfl, by first | exact HK.out | exact Below.refl _ _⟩
  · have hl : l.length ≤ 1048576 := by omega
    have HS := Hid.intro (fun v W => specHgtCell v l hl x hx W)
    have HI := Hid.intro (fun v W => implHgtCell v l hl x hx W)
    have HP : Hid (Bx w x (w.alloc (.cells #[.int .i64 x.row, .int .i64 x.col, .int .i64 x.rows, .int .i64 x.cols, .int .i64 x.ins] 24))) := ⟨K0, newestB _ _⟩
    have H0 := Hid.intro h
    clear h K0
    go_enter Try.func6, Try.ntmps6
    go_upto_region 3 with fail
    generalize w.alloc (.cells #[.int .i64 x.row, .int .i64 x.col, .int .i64 x.rows, .int .i64 x.cols, .int .i64 x.ins] 24) = W0 at HP ⊢
    obtain ⟨q0, q1, q2, q3, q4⟩ := HP.out.at
    go_cut [5] (fun s W => s = .int .i64 (highV l x) ∧ Hid (Bx w x W))
    case first =>
      have HPd := Hid.intro (HP.out.kept (k_drew (Below.refl _ _)))
      go_region_with (first
        | (go_at_call 8; refine (toIntS_any _ l hl _ (H0.out.kept HPd.out.1)).mono ?_; rintro e w1 ⟨a1, c1, rfl, hr1, hb1⟩; have R1 := Hid.intro hr1.at; have P1 := Hid.intro (HPd.out.kept hb1); clear hr1 hb1; obtain ⟨p0, p1, p2, p3, p4⟩ := P1.out.at)
        | (go_at_call 9; refine (toGrdCell_any _ _ _ _ _ _).mono ?_; rintro e w2 ⟨rfl, hb2⟩; have R2 := Hid.intro (R1.out.kept hb2); have P2 := Hid.intro (P1.out.kept hb2); clear hb2)
        | (go_at_call 16; refine (HS.out _ _ R2.out).mono ?_; rintro e w3 ⟨rfl, hb3⟩; have P3 := Hid.intro (P2.out.kept hb3); clear hb3))
      all_goals (go_wp2_with fail; go_meet; case rel => exact ⟨rfl, P3⟩)
    case rest =>
      obtain ⟨rfl, P4⟩ := hcut
      clear q0 q1 q2 q3 q4 HP HS
      generalize highV l x = y at HI ⊢
      have hyy : (y != y) = false := by simp
      go_wp2_with fail
      refine (toIntS_any _ l hl _ (H0.out.kept P4.out.1)).mono ?_
      rintro e w5 ⟨a5, c5, rfl, hr5, hb5⟩
      have R5 := Hid.intro hr5.at
      have P5 := Hid.intro (P4.out.kept hb5)
      clear hr5 hb5
      obtain ⟨p0, p1, p2, p3, p4⟩ := P5.out.at
      go_wp2_with fail
      refine (toGrdCell_any _ _ _ _ _ _).mono ?_
      rintro e w6 ⟨rfl, hb6⟩
      have R6 := Hid.intro (R5.out.kept hb6)
      have P6 := Hid.intro (P5.out.kept hb6)
      clear hb6 p0 p1 p2 p3 p4
      go_wp2_with fail
      refine (HI.out _ _ R6.out).mono ?_
      rintro e w7 ⟨rfl, hb7⟩
      have R7 := Hid.intro (R6.out.kept hb7)
      have P7 := Hid.intro (P6.out.kept hb7)
      clear hb7
      go_wp2_with fail
      refine (toIntS_any _ l hl _ (H0.out.kept P7.out.1)).mono ?_
      rintro e w8 ⟨a8, c8, rfl, hr8, hb8⟩
      have R8 := Hid.intro hr8.at
      have X8 := Hid.intro (R7.out.kept hb8)
      have P8 := Hid.intro (P7.out.kept hb8)
      clear hr8 hb8
      go_wp2_with fail
      refine (eqIntS_any _ _ l _ X8.out R8.out).mono ?_
      rintro e w9 ⟨rfl, n9, rfl⟩
      have K9 := Hid.intro (k_drewN P8.out.1 n9)
      go_wp2
      go_ret
      exact ⟨rfl, K9.out⟩

set_option linter.unusedVariables false in
set_option maxRecDepth 100000 in
theorem lifted (os : Os) (started : os.Started) (H : Type) (enc : TypeId × Value → H) :
    ReturnsInHanded {} Try.checked os 6 .any (Rows.fnExactHgtCellSpec.pre6 enc Try.prog Try.f6 Rows.fnExactHgtCellRow.domain false) (Rows.fnExactHgtCellSpec.post enc Try.prog Try.f6 false true false false) := by
  refine returnsInHanded_of_change (C := Try.checked) own started (by kernel_rfl) Try.func6
    (ChangeSpec.witness6 (enc := enc) (C := Try.checked) false ⟨#[], #[.slice none 0 0, .agg #[.int .i64 0, .int .i64 0, .int .i64 0, .int .i64 0, .int .i64 0]], []⟩ 8 (by kernel_rfl) (by kernel_rfl) (by kernel_rfl) (by kernel_rfl)) ?_
  intro W base args ds gs before hval0 hW hcnd _
  have hval : ∀ (j : Nat) t v, Try.f6.params[j]? = some t → args[j]? = some v → Value.okWide Try.prog W .any base t v := hval0
  have hW' := hW
  obtain ⟨p, q, hA0, hV, rfl, hfz, hnd⟩ := hW
  have hA : DataW.TrodAll enc Try.prog W 0 (fun _ => true) true Try.f6.params.toList args.toList ds p := hA0
  rw [Try.params6] at hA hval
  obtain ⟨v0, vs0, d0, ds0, p0, q0, hargs, rfl, rfl, h0, r0⟩ := trodAll_cons hA
  obtain ⟨v1, vs1, d1, ds1, p1, q1, rfl, rfl, rfl, h1, r1⟩ := trodAll_cons r0
  obtain ⟨rfl, rfl, rfl⟩ := trodAll_nil r1
  obtain rfl : args = #[v0, v1] := by cases args; simp_all
  obtain ⟨rfl, rfl⟩ := trodVars_none hV
  have k0 := h0
  have lt0 : ∀ x ∈ p0, x.block < W.heap.size := by obtain ⟨m, hm⟩ := k0; exact DataW.trod_lt m _ _ _ hm
  have k1 := h1
  have lt1 : ∀ x ∈ p1, x.block < W.heap.size := by obtain ⟨m, hm⟩ := k1; exact DataW.trod_lt m _ _ _ hm
  obtain ⟨a0, len0, cap0, rfl⟩ := okWide_slice Try.underlying22 (hval 0 22 v0 rfl rfl)
  obtain ⟨fuel0, hf0⟩ := h0
  obtain ⟨v, l, hv, hl⟩ := openInts hf0
  obtain rfl : v = .slice a0 len0 cap0 := by simpa [Value.cells] using hv.symm
  obtain ⟨cs1, rfl, hsz1⟩ := okWide_struct Try.underlying24 (hval 1 24 v1 rfl rfl)
  obtain ⟨fuel1, hf1⟩ := h1
  obtain ⟨g, hg, hgo⟩ := openGcL (by simpa [Value.cells] using hf1)
  obtain rfl : cs1 = #[.int .i64 g.row, .int .i64 g.col, .int .i64 g.rows, .int .i64 g.cols, .int .i64 g.ins] := by cases cs1; simpa using hg
  clear hA0 hval0
  refine (walk _ l g hgo W hl).mono fun e W' ⟨he, bel⟩ => ?_
  subst he
  exact ⟨_, rfl, _, _, _, [], _, [], hW', trodAll_mk1 (shut_bool Try.underlying4 _), (trodAll_cons_mk (Below.trod laidOut (by kernel_rfl) (of_decide_eq_true (by kernel_rfl)) k0 bel lt0) (trodAll_cons_mk (Below.trod laidOut (by kernel_rfl) (of_decide_eq_true (by kernel_rfl)) k1 bel lt1) trodAll_mk0)), rfl, bel.frame _, fun h => by cases h⟩

theorem proved : Rows.FnExactHgtCellSaid :=
  OpenClaim.holds_of_wide 6 Try.f6 rfl rfl rfl rfl rfl rfl rfl ⟨rfl, rfl, rfl, rfl, rfl⟩ rfl rfl rfl rfl rfl (by kernel_rfl) Try.func6 (by kernel_rfl)
    (of_decide_eq_true (by kernel_rfl)) (by unfold Func.isWrapper; first | (rw [if_pos (by decide +kernel)]; kernel_rfl) | (rw [if_neg (by decide +kernel)]; exact ⟨rfl, rfl⟩))
    (fun os started H enc _ => lifted os started H enc)
#print axioms proved
end Go.Proofs.Ytmdghonefdmihaw.fnExactHgtCell
