/-
  PROVED HERE: the law FnWidMore returns true at every code that lies in memory.
-/
import Derived.Test.YtfkkhfiiokhnaafGreatB43
import Derived.Test.YtfkkhfiiokhnaafGreatB51
import Derived.Test.YtfkkhfiiokhnaafGreatB52
import Derived.Test.YtfkkhfiiokhnaafGreatB54
import Derived.Test.YtfkkhfiiokhnaafGreatB36
namespace Go.Proofs.YtfkkhfiiokhnaafGreat
open Go.RowKit Go.BigFrame

theorem wrap_one {n : Int} (h : 0 ≤ n ∧ n ≤ 2000000) : IntKind.i64.wrap (n + 1) = n + 1 := by rw [IntKind.wrap_i64]; omega
set_option maxRecDepth 100000 in
set_option maxHeartbeats 4000000 in
theorem lawWidMore_walk (A : Option Addr) (len cap : Nat) (hlen : len ≤ 1048576) (w : World) (h : IsCode w A len cap) :
    Calls Tryz.prog 4 #[.slice A len cap] w fun e w' => e = .returned (.bool true) ∧ Below w.heap.size w w' := by
  have hl : ¬ (1048576 : Int) < (len : Int) := by omega
  have hmx : Tryz.prog.follows .mixedOrders = true := by kernel_rfl
  have HD := Hid.intro h
  clear h
  go_enter Tryz.func4, Tryz.ntmps4
  go_wp2_with fail
  refine (drawWidTable_any _ _ _ _ HD.out).mono ?_
  rintro e w1 ⟨ac, ar, cc, cr, t, x, rfl, hD, hxb, hC1, hW1, hb1⟩
  have HS : Hid (St w w1.heap.size ac ar cc cr t (w1.alloc (.cells #[.slice ac t.cols.length cc, .int .i64 t.head, .int .i64 t.foot, .slice ar t.rows.length cr, .int .i64 t.gap] 26))) := ⟨hb1.alloc hb1.size _, TA.kept ⟨hC1, hW1⟩ (k_alloc (Below.refl _ _) _), newestB _ _⟩
  have HMo := Hid.intro (fun h1 h2 => wide_more hD (t := t) h1 (x := x) h2)
  have HTi : Hid (∀ q W, TA W w.heap.size ac ar cc cr t → Calls Tryz.prog 17 #[.agg #[.slice ac t.cols.length cc, .int .i64 t.head, .int .i64 t.foot, .slice ar t.rows.length cr, .int .i64 t.gap], .int .i64 q] W fun e w' => e = .returned (.int .i64 (tabV t q)) ∧ Below W.heap.size W w') := fun q W h => implWidTable ac ar cc cr t hD q W h.1 h.2
  have HTs := Hid.intro (fun W (h : TA W w.heap.size ac ar cc cr t) => specWidTable ac ar cc cr t hD x W h.1 h.2)
  have HCf := Hid.intro (fun W (h : TA W w.heap.size ac ar cc cr t) => implColFloor ac ar cc cr t hD W h.1 h.2)
  have HCa := Hid.intro (fun W (h : TA W w.heap.size ac ar cc cr t) => implColAllFixed ac ar cc cr t hD W h.1 h.2)
  have HOi := Hid.intro (fun W (h : TA W w.heap.size ac ar cc cr t) => implTblOk ac ar cc cr t W h.1 h.2)
  have HOs := Hid.intro (fun W (h : TA W w.heap.size ac ar cc cr t) => specTblOk ac ar cc cr t W h.1 h.2)
  clear hC1 hW1 hb1 hD HD
  go_upto_region 4 with fail
  generalize w1.alloc (.cells #[.slice ac t.cols.length cc, .int .i64 t.head, .int .i64 t.foot, .slice ar t.rows.length cr, .int .i64 t.gap] 26) = W1 at HS ⊢
  generalize w1.heap.size = tb at HS ⊢
  generalize hn : tabV t x = n at HMo HTs
  have Hn := Hid.intro hn
  clear hn
  have hnn : (n != n) = false := by simp
  have K1 := Hid.intro (HTi.out x)
  rw [Hn.out] at K1
  obtain ⟨z0, z1, z2, z3, z4⟩ := HS.out.at
  go_wp2_with fail
  refine (K1.out _ HS.out.2.1).mono ?_
  rintro e w2 ⟨rfl, hb2⟩
  replace HS := Hid.intro (HS.out.kept hb2)
  clear hb2 z0 z1 z2 z3 z4 K1
  obtain ⟨z0, z1, z2, z3, z4⟩ := HS.out.at
  go_wp2_with fail
  refine (HTs.out _ HS.out.2.1).mono ?_
  rintro e w3 ⟨rfl, hb3⟩
  replace HS := Hid.intro (HS.out.kept hb3)
  clear hb3 z0 z1 z2 z3 z4 HTs
  obtain ⟨z0, z1, z2, z3, z4⟩ := HS.out.at
  have KO := Hid.intro (HOs.out w3 HS.out.2.1)
  by_cases hall : tblB t = true ∧ 0 ≤ x ∧ x < 300
  case neg => as_aux_lemma =>
    have HEnd : Hid (∀ (b : Bool), tblB t = b → ∀ W, TA W w.heap.size ac ar cc cr t → (Calls Tryz.prog 19 #[.agg #[.slice ac t.cols.length cc, .int .i64 t.head, .int .i64 t.foot, .slice ar t.rows.length cr, .int .i64 t.gap]] W fun e w' => e = .returned (.bool b) ∧ Below W.heap.size W w') ∧ (Calls Tryz.prog 11 #[.agg #[.slice ac t.cols.length cc, .int .i64 t.head, .int .i64 t.foot, .slice ar t.rows.length cr, .int .i64 t.gap]] W fun e w' => e = .returned (.bool b) ∧ Below W.heap.size W w')) := fun b hb W h => by subst hb; exact ⟨HOi.out W h, HOs.out W h⟩
    clear HMo HTi HCf HCa HOi HOs Hn
    cases htk : tblB t with
    | false =>
      rw [htk] at KO
      have HE := Hid.intro (HEnd.out false htk)
      clear htk hall HEnd
      go_wp2_with fail
      refine KO.out.mono ?_
      rintro e w7 ⟨rfl, hb7⟩
      replace HS := Hid.intro (HS.out.kept hb7)
      clear hb7 KO z0 z1 z2 z3 z4
      have hne := bw_some w7
      have htb := (Array.getElem?_eq_some_iff.1 HS.out.2.2).1
      have m0 := bw_cell (a := ⟨tb, 0, none⟩) htb (cellB (p := 0) HS.out.2.2)
      have m1 := bw_cell (a := ⟨tb, 1, none⟩) htb (cellB (p := 1) HS.out.2.2)
      have m2 := bw_cell (a := ⟨tb, 2, none⟩) htb (cellB (p := 2) HS.out.2.2)
      have m3 := bw_cell (a := ⟨tb, 3, none⟩) htb (cellB (p := 3) HS.out.2.2)
      have m4 := bw_cell (a := ⟨tb, 4, none⟩) htb (cellB (p := 4) HS.out.2.2)
      have k1 := Hid.intro (fun (p : BW w7) => bw_of (HE.out p.u (HS.out.kept p.h).2.1).1)
      have k2 := Hid.intro (fun (p : BW w7) => bw_of (HE.out p.u (HS.out.kept p.h).2.1).2)
      have k3 := Hid.intro (fun (p : BW w7) => bw_same (pwOk_any p.u))
      go_upto_region 8 with fail
      refine wp_region_quiet_below hmx (by kernel_rfl) ?_
      repeat (go_big_quiet_step (first | (go_at_call 19; refine k1.out _) | (go_at_call 11; refine k2.out _) | (go_at_call 12; refine k3.out _)))
      refine wpQuiet_nil ?_
      intro W5 hw'
      obtain ⟨⟨Wx, hW5⟩, hw''⟩ := hw'
      subst hw''
      have HK := Hid.intro (HS.out.kept hW5).1
      clear k1 k2 k3 m0 m1 m2 m3 m4 hne hW5
      go_wp2
      go_ret
      exact ⟨rfl, HK.out⟩
    | true =>
      rw [htk] at KO
      have HE := Hid.intro (HEnd.out true htk)
      have hx : x < 0 ∨ 300 ≤ x := by
        have : ¬ (0 ≤ x ∧ x < 300) := fun h => hall ⟨htk, h⟩
        omega
      clear htk hall HEnd
      rcases hx with hx | hx
      case' inr => have hx0 : ¬ x < 0 := by omega
      all_goals
        go_wp2_with fail
        refine KO.out.mono ?_
        rintro e w7 ⟨rfl, hb7⟩
        replace HS := Hid.intro (HS.out.kept hb7)
        clear hb7 KO z0 z1 z2 z3 z4
        have hne := bw_some w7
        have htb := (Array.getElem?_eq_some_iff.1 HS.out.2.2).1
        have m0 := bw_cell (a := ⟨tb, 0, none⟩) htb (cellB (p := 0) HS.out.2.2)
        have m1 := bw_cell (a := ⟨tb, 1, none⟩) htb (cellB (p := 1) HS.out.2.2)
        have m2 := bw_cell (a := ⟨tb, 2, none⟩) htb (cellB (p := 2) HS.out.2.2)
        have m3 := bw_cell (a := ⟨tb, 3, none⟩) htb (cellB (p := 3) HS.out.2.2)
        have m4 := bw_cell (a := ⟨tb, 4, none⟩) htb (cellB (p := 4) HS.out.2.2)
        have k1 := Hid.intro (fun (p : BW w7) => bw_of (HE.out p.u (HS.out.kept p.h).2.1).1)
        have k2 := Hid.intro (fun (p : BW w7) => bw_of (HE.out p.u (HS.out.kept p.h).2.1).2)
        have k3 := Hid.intro (fun (p : BW w7) => bw_same (pwOk_any p.u))
        go_upto_region 8 with fail
        refine wp_region_quiet_below hmx (by kernel_rfl) ?_
        repeat (go_big_quiet_step (first | (go_at_call 19; refine k1.out _) | (go_at_call 11; refine k2.out _) | (go_at_call 12; refine k3.out _)))
        refine wpQuiet_nil ?_
        intro W5 hw'
        obtain ⟨⟨Wx, hW5⟩, hw''⟩ := hw'
        subst hw''
        have HK := Hid.intro (HS.out.kept hW5).1
        clear k1 k2 k3 m0 m1 m2 m3 m4 hne hW5
        go_wp2
        go_ret
        exact ⟨rfl, HK.out⟩
  case pos => as_aux_lemma =>
    obtain ⟨htk, hx⟩ := hall
    obtain ⟨f1, f2, f3, f4, f5⟩ := HMo.out htk hx
    have HK2 : Hid (∀ W, TA W w.heap.size ac ar cc cr t → Calls Tryz.prog 20 #[.agg #[.slice ac t.cols.length cc, .int .i64 t.head, .int .i64 t.foot, .slice ar t.rows.length cr, .int .i64 t.gap]] W fun e w' => e = .returned (.bool (allFix t)) ∧ Below W.heap.size W w') := fun W h => by have k := HCa.out W h; rw [htk] at k; simpa using k
    rw [htk] at KO
    have hx0 : ¬ x < 0 := by omega
    have hx3 : ¬ 300 ≤ x := by omega
    have K1 := Hid.intro (HTi.out (x + 1))
    have hxw : IntKind.i64.wrap (x + 1) = x + 1 := wrap_one (by omega)
    have hnw := wrap_one ⟨f4, f5⟩
    clear HMo HTi HCa HOi HOs htk Hn
    generalize tabV t (x + 1) = m at f1 f2 K1
    generalize acrV (leastL t) t.gap = fl at HCf f2 f3
    go_wp2_with fail
    refine KO.out.mono ?_
    rintro e w7 ⟨rfl, hb7⟩
    replace HS := Hid.intro (HS.out.kept hb7)
    clear hb7 KO z0 z1 z2 z3 z4
    obtain ⟨z0, z1, z2, z3, z4⟩ := HS.out.at
    go_wp2_with fail
    refine (K1.out _ HS.out.2.1).mono ?_
    rintro e w8 ⟨rfl, hb8⟩
    replace HS := Hid.intro (HS.out.kept hb8)
    clear hb8 z0 z1 z2 z3 z4 K1
    obtain ⟨z0, z1, z2, z3, z4⟩ := HS.out.at
    have hfn : fl ≤ n := f3
    by_cases hlt : x < fl
    · have hme : (m == n) = true := by rw [f2]; simp [hlt]
      have hmn : m = n := beq_iff_eq.1 hme
      clear hme
      subst hmn
      clear f1 f2
      have hmm : (m == m) = true := by simp
      go_wp2_with fail
      refine (HCf.out _ HS.out.2.1).mono ?_
      rintro e w9 ⟨rfl, hb9⟩
      replace HS := Hid.intro (HS.out.kept hb9)
      clear hb9 z0 z1 z2 z3 z4
      obtain ⟨z0, z1, z2, z3, z4⟩ := HS.out.at
      go_wp2_with fail
      refine (HCf.out _ HS.out.2.1).mono ?_
      rintro e wa ⟨rfl, hba⟩
      have HK := Hid.intro (HS.out.kept hba).1
      clear hba z0 z1 z2 z3 z4
      go_wp2
      go_ret
      exact ⟨rfl, HK.out⟩
    · cases haf : allFix t with
      | true =>
        have hme : (m == n) = true := by rw [f2, haf]; simp
        have hmn : m = n := beq_iff_eq.1 hme
        clear hme
        subst hmn
        rw [haf] at HK2
        clear f1 f2 haf
        have hmm : (m == m) = true := by simp
        go_wp2_with fail
        refine (HCf.out _ HS.out.2.1).mono ?_
        rintro e w9 ⟨rfl, hb9⟩
        replace HS := Hid.intro (HS.out.kept hb9)
        clear hb9 z0 z1 z2 z3 z4
        obtain ⟨z0, z1, z2, z3, z4⟩ := HS.out.at
        go_wp2_with fail
        refine (HK2.out _ HS.out.2.1).mono ?_
        rintro e wb ⟨rfl, hbb⟩
        replace HS := Hid.intro (HS.out.kept hbb)
        clear hbb z0 z1 z2 z3 z4
        obtain ⟨z0, z1, z2, z3, z4⟩ := HS.out.at
        go_wp2_with fail
        refine (HCf.out _ HS.out.2.1).mono ?_
        rintro e wa ⟨rfl, hba⟩
        have HK := Hid.intro (HS.out.kept hba).1
        clear hba z0 z1 z2 z3 z4
        go_wp2
        go_ret
        exact ⟨rfl, HK.out⟩
      | false =>
        have hf : (m == n) = false := by rw [f2, haf]; simp [hlt]
        have hmn : m = n + 1 := by
          rcases f1 with f1 | f1
          · rw [f1] at hf; simp at hf
          · exact f1
        subst hmn
        rw [haf] at HK2
        clear f1 f2 haf
        have hmm : (n + 1 == n + 1) = true := by simp
        go_wp2_with fail
        refine (HCf.out _ HS.out.2.1).mono ?_
        rintro e w9 ⟨rfl, hb9⟩
        replace HS := Hid.intro (HS.out.kept hb9)
        clear hb9 z0 z1 z2 z3 z4
        obtain ⟨z0, z1, z2, z3, z4⟩ := HS.out.at
        go_wp2_with fail
        refine (HK2.out _ HS.out.2.1).mono ?_
        rintro e wb ⟨rfl, hbb⟩
        replace HS := Hid.intro (HS.out.kept hbb)
        clear hbb z0 z1 z2 z3 z4
        obtain ⟨z0, z1, z2, z3, z4⟩ := HS.out.at
        go_wp2_with fail
        refine (HCf.out _ HS.out.2.1).mono ?_
        rintro e wa ⟨rfl, hba⟩
        have HK := Hid.intro (HS.out.kept hba).1
        clear hba z0 z1 z2 z3 z4
        go_wp2
        go_ret
        exact ⟨by simp [hlt], HK.out⟩

theorem lawWidMore (a : Option Addr) (len cap : Nat) (w : World) (h : IsCode w a len cap) :
    Calls Tryz.prog 4 #[.slice a len cap] w fun e w' => e = .returned (.bool true) ∧ Below w.heap.size w w' := by
  by_cases hl : len ≤ 1048576
  · exact lawWidMore_walk a len cap hl w h
  · have hl' : (1048576 : Int) < (len : Int) := by omega
    clear h
    go_enter Tryz.func4, Tryz.ntmps4
    go_wp2
    go_ret
    exact ⟨rfl, Below.refl _ _⟩
end Go.Proofs.YtfkkhfiiokhnaafGreat
