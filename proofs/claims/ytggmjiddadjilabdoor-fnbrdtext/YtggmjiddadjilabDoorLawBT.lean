/-
  PROVED HERE: the law FnBrdText returns true at every two codes that lie in memory.
-/
import Derived.Test.YtggmjiddadjilabDoorDrawBT
import Derived.Test.YtggmjiddadjilabDoorBrdRead
import Derived.Laws.StructEq
namespace Go.Proofs.YtggmjiddadjilabDoor
open Go.RowKit

theorem dg_app_size (a b : Int) : (dg a ++ dg b).size = 2 := rfl
theorem dg_by {a b : Int} (ha : 0 ≤ a ∧ a ≤ 4) (hb : 0 ≤ b ∧ b ≤ 3) : by8 (dg a ++ dg b) 0 = a + 48 ∧ by8 (dg a ++ dg b) 1 = b + 48 := by
  rcases (by omega : a = 0 ∨ a = 1 ∨ a = 2 ∨ a = 3 ∨ a = 4) with rfl | rfl | rfl | rfl | rfl <;> rcases (by omega : b = 0 ∨ b = 1 ∨ b = 2 ∨ b = 3) with rfl | rfl | rfl | rfl <;> exact ⟨rfl, rfl⟩
theorem txt_read {a b : Int} (h : brdOkB a b = true) : rdOk (txtB a b) = true ∧ rdA (txtB a b) = a ∧ rdB (txtB a b) = b := by
  obtain ⟨ha, hb⟩ := brd_range h
  have e : txtB a b = dg a ++ dg b := by rw [txtB, if_pos h]
  obtain ⟨e0, e1⟩ := dg_by ha hb
  have e2 : a + 48 - 48 = a := by omega
  have e3 : b + 48 - 48 = b := by omega
  have ho : rdOk (dg a ++ dg b) = true := by rw [rdOk, dg_app_size, e0, e1, e2, e3, h]; rfl
  rw [e]
  exact ⟨ho, by rw [rdA, if_pos ho, e0, e2], by rw [rdB, if_pos ho, e1, e3]⟩
theorem dg_of (x : UInt8) (h : 48 ≤ x.toNat) : (48 : UInt8) + UInt8.ofNat ((x.toNat : Int) - 48).toNat = x := by
  apply UInt8.toNat_inj.1
  have hx := x.toNat_lt
  have e : ((x.toNat : Int) - 48).toNat = x.toNat - 48 := by omega
  rw [e, UInt8.toNat_add, UInt8.toNat_ofNat']
  show (48 + (x.toNat - 48) % 2 ^ 8) % 2 ^ 8 = x.toNat
  omega
theorem read_txt {s : ByteArray} (h : rdOk s = true) : txtB (rdA s) (rdB s) = s := by
  have h0 := h
  rw [rdOk, Bool.and_eq_true] at h0
  obtain ⟨h2, hb⟩ := h0
  have h2 := of_decide_eq_true h2
  have ea : rdA s = by8 s 0 - 48 := by rw [rdA, if_pos h]
  have eb : rdB s = by8 s 1 - 48 := by rw [rdB, if_pos h]
  obtain ⟨⟨l0, _⟩, l1, _⟩ := brd_range hb
  rw [ea, eb, txtB, if_pos hb]
  rw [by8_at (by omega : 0 < s.size)] at l0 ⊢
  rw [by8_at (by omega : 1 < s.size)] at l1 ⊢
  obtain ⟨d⟩ := s
  obtain ⟨l⟩ := d
  match l, h2 with
  | [x, y], _ =>
    have hx : dg ((x.toNat : Int) - 48) = ⟨#[x]⟩ := by unfold dg; rw [dg_of x (by change 0 ≤ (x.toNat : Int) - 48 at l0; omega)]
    have hy : dg ((y.toNat : Int) - 48) = ⟨#[y]⟩ := by unfold dg; rw [dg_of y (by change 0 ≤ (y.toNat : Int) - 48 at l1; omega)]
    show dg ((x.toNat : Int) - 48) ++ dg ((y.toNat : Int) - 48) = _
    rw [hx, hy]
    rfl
theorem txt_full {a b : Int} (h : brdOkB a b = true) : (txtB a b).toList ≠ [] := by
  rw [txtB, if_pos h, Lib.toList_data]
  intro e
  have := congrArg List.length e
  rw [← Lib.size_eq, dg_app_size] at this
  cases this
theorem full_facts {s : ByteArray} (h : s.toList ≠ []) : (s.toList == []) = false ∧ (s.toList = []) = False ∧ s.toList.isEmpty = false := by
  refine ⟨beq_eq_false_iff_ne.2 h, eq_false h, ?_⟩
  cases hs : s.toList with
  | nil => exact absurd hs h
  | cons x l => rfl
theorem txt_32 : txtB 3 2 = ⟨#[51, 50]⟩ := rfl
/-- a border in its box all along the law -/
structure Bz (w : World) (tb : Nat) (a b : Int) (W : World) : Prop where
  bel : Below w.heap.size w W
  y : W.heap[tb]? = some (.cells #[.int .i64 a, .int .i64 b] 24)
theorem Bz.kept {w W W' : World} {tb : Nat} {a b : Int} (h : Bz w tb a b W) (k : Below W.heap.size W W') : Bz w tb a b W' :=
  ⟨k_trans h.bel k, (k.block _ (Array.getElem?_eq_some_iff.1 h.y).1).trans h.y⟩
theorem Bz.at {w W : World} {tb : Nat} {a b : Int} (h : Bz w tb a b W) : W.cell? ⟨tb, 0, none⟩ = some (.int .i64 a) ∧ W.cell? ⟨tb, 1, none⟩ = some (.int .i64 b) := (two_cells h.y).1

set_option maxRecDepth 100000 in
set_option maxHeartbeats 1000000 in
theorem lawBT_walk (A : Option Addr) (len cap : Nat) (A2 : Option Addr) (len2 cap2 : Nat) (hlen : len ≤ 1048576) (hlen2 : len2 ≤ 1048576) (w : World) (h : IsCode w A len cap) (h2 : IsCode w A2 len2 cap2) :
    Calls Tryd.prog 3 #[.slice A len cap, .slice A2 len2 cap2] w fun e w' => e = .returned (.bool true) ∧ Below w.heap.size w w' := by
  have hl : ¬ (1048576 : Int) < (len : Int) := by omega
  have hl2 : ¬ (1048576 : Int) < (len2 : Int) := by omega
  have HD := Hid.intro h
  have HD2 := Hid.intro h2
  clear h h2
  go_enter Tryd.func3, Tryd.ntmps3
  go_wp2_with fail
  refine (drawBrdText_any _ _ _ _ HD.out).mono ?_
  rintro e w1 ⟨a, b, rfl, hb1⟩
  have HX : Hid (Bz w w1.heap.size a b (w1.alloc (.cells #[.int .i64 a, .int .i64 b] 24))) := ⟨k_alloc hb1 _, newest _ _⟩
  have KI := Hid.intro (fun W => implBrdText a b W)
  have KS := Hid.intro (fun W => specBrdText a b W)
  have KO := Hid.intro (fun W => implBrdOk a b W)
  have HT := Hid.intro (fun h => txt_read (a := a) (b := b) h)
  have HE := Hid.intro (fun h => txt_full (a := a) (b := b) h)
  have HN : Hid (brdOkB a b = false → txtB a b = ⟨#[]⟩) := Hid.intro (fun h => by rw [txtB, if_neg (by rw [h]; simp)])
  clear hb1 HD
  go_upto_region 4 with fail
  generalize w1.alloc (.cells #[.int .i64 a, .int .i64 b] 24) = W1 at HX ⊢
  generalize w1.heap.size = tb at HX ⊢
  generalize txtB a b = s at KI KS HT HE HN
  generalize brdOkB a b = ok1 at KO HT HE HN
  obtain ⟨m0, m1⟩ := HX.out.at
  go_wp2_with fail
  refine (KI.out _).mono ?_
  rintro e w2 ⟨rfl, hb2⟩
  replace HX := Hid.intro (HX.out.kept hb2)
  clear hb2 m0 m1
  go_wp2_with fail
  refine (drawBrdRead_any _ _ _ _ (HD2.out.kept2 HX.out.bel)).mono ?_
  rintro e w3 ⟨t, rfl, hb3⟩
  replace HX := Hid.intro (HX.out.kept hb3)
  have KR := Hid.intro (fun W => implBrdRead t W)
  have KQ := Hid.intro (fun W => specBrdRead t W)
  have KJ : Hid (rdOk t = true → ∀ W, Calls Tryd.prog 6 #[.agg #[.int .i64 (rdA t), .int .i64 (rdB t)]] W fun e w' => e = .returned (.string t) ∧ Below W.heap.size W w') := Hid.intro (fun h W => by
    have k := implBrdText (rdA t) (rdB t) W
    rw [read_txt h] at k
    exact k)
  generalize rdA t = p at KR KQ KJ
  generalize rdB t = q at KR KQ KJ
  generalize rdOk t = ok2 at KR KQ KJ
  clear hb3 HD2
  go_wp2_with fail
  refine (KR.out _).mono ?_
  rintro e w4 ⟨rfl, hb4⟩
  replace HX := Hid.intro (HX.out.kept hb4)
  have HU : Hid (Bz w w4.heap.size p q (w4.alloc (.cells #[.int .i64 p, .int .i64 q] 24))) := ⟨k_alloc HX.out.bel _, newest _ _⟩
  replace HX := Hid.intro (HX.out.kept (k_alloc (Below.refl _ _) (.cells #[.int .i64 p, .int .i64 q] 24)))
  clear hb4 KR
  go_upto_region 7 with fail
  generalize w4.alloc (.cells #[.int .i64 p, .int .i64 q] 24) = W4 at HX HU ⊢
  generalize w4.heap.size = ub at HU ⊢
  go_wp2_with fail
  refine (KQ.out _).mono ?_
  rintro e w5 ⟨rfl, hb5⟩
  replace HX := Hid.intro (HX.out.kept hb5)
  replace HU := Hid.intro (HU.out.kept hb5)
  have HV : Hid (Bz w w5.heap.size p q (w5.alloc (.cells #[.int .i64 p, .int .i64 q] 24))) := ⟨k_alloc HX.out.bel _, newest _ _⟩
  replace HX := Hid.intro (HX.out.kept (k_alloc (Below.refl _ _) (.cells #[.int .i64 p, .int .i64 q] 24)))
  replace HU := Hid.intro (HU.out.kept (k_alloc (Below.refl _ _) (.cells #[.int .i64 p, .int .i64 q] 24)))
  clear hb5 KQ
  go_upto_region 8 with fail
  generalize w5.alloc (.cells #[.int .i64 p, .int .i64 q] 24) = W5 at HX HU HV ⊢
  generalize w5.heap.size = vb at HV ⊢
  obtain ⟨m0, m1⟩ := HX.out.at
  obtain ⟨n0, n1⟩ := HU.out.at
  obtain ⟨o0, o1⟩ := HV.out.at
  go_wp2_with fail
  refine (KS.out _).mono ?_
  rintro e w6 ⟨rfl, hb6⟩
  replace HX := Hid.intro (HX.out.kept hb6)
  replace HU := Hid.intro (HU.out.kept hb6)
  replace HV := Hid.intro (HV.out.kept hb6)
  clear hb6 m0 m1 n0 n1 o0 o1 KS
  obtain ⟨m0, m1⟩ := HX.out.at
  obtain ⟨n0, n1⟩ := HU.out.at
  obtain ⟨o0, o1⟩ := HV.out.at
  cases ok2 with
  | true =>
    have KJ' := Hid.intro (KJ.out rfl)
    clear KJ
    go_wp2_with fail
    refine (KJ'.out _).mono ?_
    rintro e w7 ⟨rfl, hb7⟩
    replace HX := Hid.intro (HX.out.kept hb7)
    clear hb7 m0 m1 n0 n1 o0 o1 HU HV
    obtain ⟨m0, m1⟩ := HX.out.at
    cases ok1 with
    | true =>
      obtain ⟨hs1, hs2, hs3⟩ := full_facts (HE.out rfl)
      obtain ⟨t1, t2, t3⟩ := HT.out rfl
      have KB := Hid.intro (fun W => implBrdRead s W)
      rw [t1, t2, t3] at KB
      clear HE HT HN t1 t2 t3
      go_wp2_with fail
      refine (KO.out _).mono ?_
      rintro e w8 ⟨rfl, rfl⟩
      replace HX := Hid.intro (HX.out.kept (k_alloc (Below.refl _ _) (.cells #[.int .i64 a, .int .i64 b] 24)))
      clear m0 m1
      obtain ⟨m0, m1⟩ := HX.out.at
      go_wp2_with fail
      refine (KB.out _).mono ?_
      rintro e w9 ⟨rfl, hb9⟩
      obtain ⟨r0, r1⟩ := (HX.out.kept hb9).at
      have hlt : tb < w9.heap.size := (Array.getElem?_eq_some_iff.1 (HX.out.kept hb9).y).1
      have HBB := Hid.intro (HX.out.kept hb9).bel
      clear hb9 m0 m1 HX
      go_wp2
      go_ret
      exact ⟨rfl, k_alloc HBB.out _⟩
    | false =>
      obtain rfl := HN.out rfl
      have K3 := Hid.intro (fun W => implBrdText 3 2 W)
      rw [txt_32] at K3
      clear HE HT HN
      go_wp2_with fail
      refine (KO.out _).mono ?_
      rintro e w8 ⟨rfl, rfl⟩
      replace HX := Hid.intro (HX.out.kept (k_alloc (Below.refl _ _) (.cells #[.int .i64 a, .int .i64 b] 24)))
      clear m0 m1
      obtain ⟨m0, m1⟩ := HX.out.at
      go_wp2_with fail
      refine (K3.out _).mono ?_
      rintro e w9 ⟨rfl, hb9⟩
      have HBB := Hid.intro (HX.out.kept hb9).bel
      clear hb9 m0 m1 HX
      go_wp2
      go_ret
      exact ⟨rfl, HBB.out⟩
  | false =>
    clear KJ
    cases ok1 with
    | true =>
      obtain ⟨hs1, hs2, hs3⟩ := full_facts (HE.out rfl)
      obtain ⟨t1, t2, t3⟩ := HT.out rfl
      have KB := Hid.intro (fun W => implBrdRead s W)
      rw [t1, t2, t3] at KB
      clear HE HT HN t1 t2 t3
      go_wp2_with fail
      refine (KO.out _).mono ?_
      rintro e w8 ⟨rfl, rfl⟩
      replace HX := Hid.intro (HX.out.kept (k_alloc (Below.refl _ _) (.cells #[.int .i64 a, .int .i64 b] 24)))
      clear m0 m1
      obtain ⟨m0, m1⟩ := HX.out.at
      go_wp2_with fail
      refine (KB.out _).mono ?_
      rintro e w9 ⟨rfl, hb9⟩
      obtain ⟨r0, r1⟩ := (HX.out.kept hb9).at
      have hlt : tb < w9.heap.size := (Array.getElem?_eq_some_iff.1 (HX.out.kept hb9).y).1
      have HBB := Hid.intro (HX.out.kept hb9).bel
      clear hb9 m0 m1 HX n0 n1 o0 o1
      go_wp2
      go_ret
      exact ⟨rfl, k_alloc HBB.out _⟩
    | false =>
      obtain rfl := HN.out rfl
      have K3 := Hid.intro (fun W => implBrdText 3 2 W)
      rw [txt_32] at K3
      clear HE HT HN
      go_wp2_with fail
      refine (KO.out _).mono ?_
      rintro e w8 ⟨rfl, rfl⟩
      replace HX := Hid.intro (HX.out.kept (k_alloc (Below.refl _ _) (.cells #[.int .i64 a, .int .i64 b] 24)))
      clear m0 m1
      obtain ⟨m0, m1⟩ := HX.out.at
      go_wp2_with fail
      refine (K3.out _).mono ?_
      rintro e w9 ⟨rfl, hb9⟩
      have HBB := Hid.intro (HX.out.kept hb9).bel
      clear hb9 m0 m1 HX n0 n1 o0 o1
      go_wp2
      go_ret
      exact ⟨rfl, HBB.out⟩

set_option maxRecDepth 100000 in
theorem lawBrdText (A : Option Addr) (len cap : Nat) (A2 : Option Addr) (len2 cap2 : Nat) (w : World) (h : IsCode w A len cap) (h2 : IsCode w A2 len2 cap2) :
    Calls Tryd.prog 3 #[.slice A len cap, .slice A2 len2 cap2] w fun e w' => e = .returned (.bool true) ∧ Below w.heap.size w w' := by
  have hlen : len ≤ maxLen := Nat.le_trans h.1 h.2.1
  have hlen2 : len2 ≤ maxLen := Nat.le_trans h2.1 h2.2.1
  unfold maxLen at hlen hlen2
  by_cases hbig : len ≤ 1048576
  · by_cases hbig2 : len2 ≤ 1048576
    · exact lawBT_walk A len cap A2 len2 cap2 hbig hbig2 w h h2
    · clear h h2
      have hb : ¬ (1048576 : Int) < (len : Int) := by omega
      have hb2 : (1048576 : Int) < (len2 : Int) := by omega
      go_enter Tryd.func3, Tryd.ntmps3
      go_wp2
      go_ret
      exact ⟨rfl, Below.refl _ _⟩
  · clear h h2
    have hb : (1048576 : Int) < (len : Int) := by omega
    go_enter Tryd.func3, Tryd.ntmps3
    go_wp2
    go_ret
    exact ⟨rfl, Below.refl _ _⟩
end Go.Proofs.YtggmjiddadjilabDoor
