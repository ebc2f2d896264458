/-
  PROVED HERE: what the program's CellText answers at every cell: its line, or nothing; nothing that was in memory is turned.
-/
import Derived.Test.YtggmjiddadjilaqDoorCellTB
import Derived.Test.YtggmjiddadjilaqDoorCellTS
import Derived.Test.YtggmjiddadjilaqDoorAnyJ0
import Derived.Deep.RegionWith
namespace Go.Proofs.YtggmjiddadjilaqDoor
open Go.RowKit

theorem join_is (x : C) : (⟨(Lib.join ([lst2 x.c x.r, txtB x.a1 x.b1, txtB x.a2 x.b2, txtB x.a3 x.b3, txtB x.a4 x.b4, x.s].map (·.data.toList)) (⟨#[32]⟩ : ByteArray).data.toList).toArray⟩ : ByteArray) = cellX x := by
  apply Go.WideShapes.bytes_inj
  unfold cellX lst2
  simp only [Joins.data_append, Lib.join, List.intercalate, List.map_cons, List.map_nil, List.intersperse, List.flatten_cons, List.flatten_nil, List.append_nil, List.append_assoc, List.cons_append, List.nil_append]
theorem join_len (x : C) (h : cB x = true) : (Lib.join ([lst2 x.c x.r, txtB x.a1 x.b1, txtB x.a2 x.b2, txtB x.a3 x.b3, txtB x.a4 x.b4, x.s].map (·.data.toList)) (⟨#[32]⟩ : ByteArray).data.toList).length ≤ 140737488355328 := by
  obtain ⟨_, _, h1, h2, h3, h4, hs⟩ := cB_parts h
  have e2 : (cellX x).size = 21 + x.s.size := by
    unfold cellX
    simp only [ByteArray.size_append, txtB_size h1, txtB_size h2, txtB_size h3, txtB_size h4, dg_size]
    rfl
  have e3 : ∀ l : List UInt8, l.length = (⟨l.toArray⟩ : ByteArray).size := fun l => by simp [ByteArray.size]
  rw [e3, join_is, e2]
  omega
structure CtJ (cb : Nat) (s ll t1 t2 t3 t4 cx : ByteArray) (c r a1 b1 a2 b2 a3 b3 a4 b4 : Int) (W3 : World) (L : Nat → Bool) (W : World) (v6 v7 v8 v9 v10 v11 v12 v13 v14 v15 v16 v17 v18 v19 v20 v21 v22 v23 v24 v25 v26 v27 v2 : Value) : Prop where
  f0 : L 0 = true → v6 = .pointer (some ⟨cb, 1, none⟩)
  f1 : L 1 = true → v7 = .int .i64 c
  f2 : L 2 = true → v8 = .pointer (some ⟨cb, 2, none⟩)
  f3 : L 3 = true → v9 = .int .i64 r
  f4 : L 4 = true → ∃ b, v10 = .slice (some ⟨b, 0, none⟩) 2 2 ∧ W.heap[b]? = some (.cells #[.int .i64 c, .int .i64 r] 3)
  f5 : L 5 = true → v11 = .string ll
  f6 : L 6 = true → v12 = .pointer (some ⟨cb, 3, none⟩)
  f7 : L 7 = true → v13 = .agg #[.int .i64 a1, .int .i64 b1]
  f8 : L 8 = true → v14 = .string t1
  f9 : L 9 = true → v15 = .pointer (some ⟨cb, 5, none⟩)
  f10 : L 10 = true → v16 = .agg #[.int .i64 a2, .int .i64 b2]
  f11 : L 11 = true → v17 = .string t2
  f12 : L 12 = true → v18 = .pointer (some ⟨cb, 7, none⟩)
  f13 : L 13 = true → v19 = .agg #[.int .i64 a3, .int .i64 b3]
  f14 : L 14 = true → v20 = .string t3
  f15 : L 15 = true → v21 = .pointer (some ⟨cb, 9, none⟩)
  f16 : L 16 = true → v22 = .agg #[.int .i64 a4, .int .i64 b4]
  f17 : L 17 = true → v23 = .string t4
  f18 : L 18 = true → v24 = .pointer (some ⟨cb, 0, none⟩)
  f19 : L 19 = true → v25 = .string s
  f20 : L 20 = true → ∃ b, v26 = .slice (some ⟨b, 0, none⟩) 6 6 ∧ W.heap[b]? = some (.cells #[.string ll, .string t1, .string t2, .string t3, .string t4, .string s] 9)
  f21 : L 21 = true → v27 = .string cx
  f22 : L 22 = true → v2 = .string cx
  b : Below W3.heap.size W3 W

set_option maxRecDepth 100000 in
set_option maxHeartbeats 1500000 in
theorem implCellText (x : C) (hs : x.s.size ≤ maxLen) (w : World) :
    Calls Tryd.prog 8 #[.agg #[.string x.s, .int .i64 x.c, .int .i64 x.r, .int .i64 x.a1, .int .i64 x.b1, .int .i64 x.a2, .int .i64 x.b2, .int .i64 x.a3, .int .i64 x.b3, .int .i64 x.a4, .int .i64 x.b4]] w fun e w' => e = .returned (.string (cellT x)) ∧ Below w.heap.size w w' := by
  have hmx : Tryd.prog.follows .mixedOrders = true := by kernel_rfl
  have KO := Hid.intro (fun W => implCellOk x.s x.c x.r x.a1 x.b1 x.a2 x.b2 x.a3 x.b3 x.a4 x.b4 W hs)
  have X0 := newestB w (.cells #[.string x.s, .int .i64 x.c, .int .i64 x.r, .int .i64 x.a1, .int .i64 x.b1, .int .i64 x.a2, .int .i64 x.b2, .int .i64 x.a3, .int .i64 x.b3, .int .i64 x.a4, .int .i64 x.b4] 30)
  have K0 := Hid.intro (k_alloc (Below.refl w.heap.size w) (.cells #[.string x.s, .int .i64 x.c, .int .i64 x.r, .int .i64 x.a1, .int .i64 x.b1, .int .i64 x.a2, .int .i64 x.b2, .int .i64 x.a3, .int .i64 x.b3, .int .i64 x.a4, .int .i64 x.b4] 30))
  have hcb : cB x = cellOkB x.s x.c x.r x.a1 x.b1 x.a2 x.b2 x.a3 x.b3 x.a4 x.b4 := rfl
  rw [← hcb] at KO
  clear hcb
  cases hok : cB x with
  | false =>
    rw [hok] at KO
    have HT : Hid (cellT x = ⟨#[]⟩) := Hid.intro (by rw [cellT, if_neg (by rw [hok]; simp)])
    go_enter Tryd.func8, Tryd.ntmps8
    go_wp2_with fail
    refine (KO.out _).mono ?_
    rintro e w1 ⟨rfl, hb1⟩
    have K1 := Hid.intro (k_trans K0.out hb1)
    clear hb1 X0
    go_wp2
    go_ret
    exact ⟨by rw [HT.out]; rfl, K1.out⟩
  | true =>
    rw [hok] at KO
    obtain ⟨hc, hr, h1, h2, h3, h4, hs30⟩ := cB_parts hok
    have HT : Hid (cellT x = cellX x) := Hid.intro (by rw [cellT, if_pos hok])
    have KL := Hid.intro (fun b W h => implListed2 x.c x.r hc hr b W h)
    have K1 := Hid.intro (fun W => implBrdText x.a1 x.b1 W)
    have K2 := Hid.intro (fun W => implBrdText x.a2 x.b2 W)
    have K3 := Hid.intro (fun W => implBrdText x.a3 x.b3 W)
    have K4 := Hid.intro (fun W => implBrdText x.a4 x.b4 W)
    have KJ : Hid (∀ (b : Nat) (W : World), W.heap[b]? = some (.cells #[.string (lst2 x.c x.r), .string (txtB x.a1 x.b1), .string (txtB x.a2 x.b2), .string (txtB x.a3 x.b3), .string (txtB x.a4 x.b4), .string x.s] 9) → Calls Tryd.prog 16 #[.slice (some ⟨b, 0, none⟩) 6 6, .string ⟨#[32]⟩] W fun e w' => e = .returned (.string (cellX x)) ∧ Below W.heap.size W w') := Hid.intro (fun b W h => by
      have k := Tryd.strings_Join b 0 6 [lst2 x.c x.r, txtB x.a1 x.b1, txtB x.a2 x.b2, txtB x.a3 x.b3, txtB x.a4 x.b4, x.s] ⟨#[32]⟩ W (fun j y hj => by
        match j, hj with
        | 0, hj => cases hj; exact Joins.cell_of_block h 0
        | 1, hj => cases hj; exact Joins.cell_of_block h 1
        | 2, hj => cases hj; exact Joins.cell_of_block h 2
        | 3, hj => cases hj; exact Joins.cell_of_block h 3
        | 4, hj => cases hj; exact Joins.cell_of_block h 4
        | 5, hj => cases hj; exact Joins.cell_of_block h 5) (Array.getElem?_eq_some_iff.1 h).1 (by simp) (by simp) (join_len x hok)
      rw [join_is] at k
      exact k)
    clear h1 h2 h3 h4 hok hc hr hs30 hs
    obtain ⟨s, c, r, a1, b1, a2, b2, a3, b3, a4, b4⟩ := x
    simp only at KO X0 K0 KL K1 K2 K3 K4 KJ HT ⊢
    generalize lst2 c r = ll at KL KJ
    generalize txtB a1 b1 = t1 at K1 KJ
    generalize txtB a2 b2 = t2 at K2 KJ
    generalize txtB a3 b3 = t3 at K3 KJ
    generalize txtB a4 b4 = t4 at K4 KJ
    generalize cellX ⟨s, c, r, a1, b1, a2, b2, a3, b3, a4, b4⟩ = cx at KJ HT
    go_enter Tryd.func8, Tryd.ntmps8
    go_wp2_with fail
    refine (KO.out _).mono ?_
    rintro e W3 ⟨rfl, hb1⟩
    have HX := Hid.intro ((hb1.block _ (Array.getElem?_eq_some_iff.1 X0).1).trans X0)
    have K9 := Hid.intro (k_trans K0.out hb1)
    clear hb1 X0 KO K0
    go_upto_region 3 with fail
    have hl0 := (Array.getElem?_eq_some_iff.1 HX.out).1
    generalize w.heap.size = cb at HX hl0 ⊢
    refine wp_region_inv2 (fun L act W => ∃ v6 v7 v8 v9 v10 v11 v12 v13 v14 v15 v16 v17 v18 v19 v20 v21 v22 v23 v24 v25 v26 v27 v2 : Value, act = ⟨#[.agg #[.string s, .int .i64 c, .int .i64 r, .int .i64 a1, .int .i64 b1, .int .i64 a2, .int .i64 b2, .int .i64 a3, .int .i64 b3, .int .i64 a4, .int .i64 b4], .pointer (some ⟨cb, 0, none⟩), v2, .agg #[.string s, .int .i64 c, .int .i64 r, .int .i64 a1, .int .i64 b1, .int .i64 a2, .int .i64 b2, .int .i64 a3, .int .i64 b3, .int .i64 a4, .int .i64 b4], .bool true, .bool false, v6, v7, v8, v9, v10, v11, v12, v13, v14, v15, v16, v17, v18, v19, v20, v21, v22, v23, v24, v25, v26, v27], []⟩ ∧ CtJ cb s ll t1 t2 t3 t4 cx c r a1 b1 a2 b2 a3 b3 a4 b4 W3 L W v6 v7 v8 v9 v10 v11 v12 v13 v14 v15 v16 v17 v18 v19 v20 v21 v22 v23 v24 v25 v26 v27 v2) hmx (by kernel_rfl) ?hs ?hd ?h0
    case h0 => exact ⟨_, _, _, _, _, _, _, _, _, _, _, _, _, _, _, _, _, _, _, _, _, _, _, rfl, ⟨(fun h => by cases h), (fun h => by cases h), (fun h => by cases h), (fun h => by cases h), (fun h => by cases h), (fun h => by cases h), (fun h => by cases h), (fun h => by cases h), (fun h => by cases h), (fun h => by cases h), (fun h => by cases h), (fun h => by cases h), (fun h => by cases h), (fun h => by cases h), (fun h => by cases h), (fun h => by cases h), (fun h => by cases h), (fun h => by cases h), (fun h => by cases h), (fun h => by cases h), (fun h => by cases h), (fun h => by cases h), (fun h => by cases h), k_drew (Below.refl _ _)⟩⟩
    case hd =>
      intro L act W hJ hall
      obtain ⟨v6, v7, v8, v9, v10, v11, v12, v13, v14, v15, v16, v17, v18, v19, v20, v21, v22, v23, v24, v25, v26, v27, v2, ha, J⟩ := hJ
      subst ha
      obtain rfl := J.f22 (hall 22 (by decide))
      have HB := Hid.intro (k_trans K9.out J.b)
      clear J hall
      go_wp2
      go_ret
      exact ⟨by rw [HT.out]; rfl, HB.out⟩
    case hs =>
      intro L act W i o hJ hcl ho hLi haft K hK
      obtain ⟨v6, v7, v8, v9, v10, v11, v12, v13, v14, v15, v16, v17, v18, v19, v20, v21, v22, v23, v24, v25, v26, v27, v2, ha, J⟩ := hJ
      subst ha
      have hi' : i < 23 := by
        have := (Array.getElem?_eq_some_iff.1 ho).1
        simpa using this
      rcases (by omega : i = 0 ∨ i = 1 ∨ i = 2 ∨ i = 3 ∨ i = 4 ∨ i = 5 ∨ i = 6 ∨ i = 7 ∨ i = 8 ∨ i = 9 ∨ i = 10 ∨ i = 11 ∨ i = 12 ∨ i = 13 ∨ i = 14 ∨ i = 15 ∨ i = 16 ∨ i = 17 ∨ i = 18 ∨ i = 19 ∨ i = 20 ∨ i = 21 ∨ i = 22) with rfl | rfl | rfl | rfl | rfl | rfl | rfl | rfl | rfl | rfl | rfl | rfl | rfl | rfl | rfl | rfl | rfl | rfl | rfl | rfl | rfl | rfl | rfl
      all_goals
        simp only [List.getElem?_toArray, List.getElem?_cons_zero, List.getElem?_cons_succ, Option.some.injEq] at ho
        subst ho
        clear hi'
      · skip
        go_simp
        exact hK _ _ ⟨_, _, _, _, _, _, _, _, _, _, _, _, _, _, _, _, _, _, _, _, _, _, _, rfl, ⟨(fun _ => rfl), (fun h => J.f1 (un h)), (fun h => J.f2 (un h)), (fun h => J.f3 (un h)), (fun h => J.f4 (un h)), (fun h => J.f5 (un h)), (fun h => J.f6 (un h)), (fun h => J.f7 (un h)), (fun h => J.f8 (un h)), (fun h => J.f9 (un h)), (fun h => J.f10 (un h)), (fun h => J.f11 (un h)), (fun h => J.f12 (un h)), (fun h => J.f13 (un h)), (fun h => J.f14 (un h)), (fun h => J.f15 (un h)), (fun h => J.f16 (un h)), (fun h => J.f17 (un h)), (fun h => J.f18 (un h)), (fun h => J.f19 (un h)), (fun h => J.f20 (un h)), (fun h => J.f21 (un h)), (fun h => J.f22 (un h)), J.b⟩⟩
      · skip
        obtain rfl := J.f0 (haft ⟨0, .data⟩ (by simp) rfl)
        obtain ⟨q0, q1, q2, q3, q4, q5, q6, q7, q8, q9, q10⟩ := elevenC ((J.b.block _ hl0).trans HX.out)
        have hl := Nat.lt_of_lt_of_le hl0 J.b.size
        go_simp
        exact hK _ _ ⟨_, _, _, _, _, _, _, _, _, _, _, _, _, _, _, _, _, _, _, _, _, _, _, rfl, ⟨(fun h => J.f0 (un h)), (fun _ => rfl), (fun h => J.f2 (un h)), (fun h => J.f3 (un h)), (fun h => J.f4 (un h)), (fun h => J.f5 (un h)), (fun h => J.f6 (un h)), (fun h => J.f7 (un h)), (fun h => J.f8 (un h)), (fun h => J.f9 (un h)), (fun h => J.f10 (un h)), (fun h => J.f11 (un h)), (fun h => J.f12 (un h)), (fun h => J.f13 (un h)), (fun h => J.f14 (un h)), (fun h => J.f15 (un h)), (fun h => J.f16 (un h)), (fun h => J.f17 (un h)), (fun h => J.f18 (un h)), (fun h => J.f19 (un h)), (fun h => J.f20 (un h)), (fun h => J.f21 (un h)), (fun h => J.f22 (un h)), J.b⟩⟩
      · skip
        go_simp
        exact hK _ _ ⟨_, _, _, _, _, _, _, _, _, _, _, _, _, _, _, _, _, _, _, _, _, _, _, rfl, ⟨(fun h => J.f0 (un h)), (fun h => J.f1 (un h)), (fun _ => rfl), (fun h => J.f3 (un h)), (fun h => J.f4 (un h)), (fun h => J.f5 (un h)), (fun h => J.f6 (un h)), (fun h => J.f7 (un h)), (fun h => J.f8 (un h)), (fun h => J.f9 (un h)), (fun h => J.f10 (un h)), (fun h => J.f11 (un h)), (fun h => J.f12 (un h)), (fun h => J.f13 (un h)), (fun h => J.f14 (un h)), (fun h => J.f15 (un h)), (fun h => J.f16 (un h)), (fun h => J.f17 (un h)), (fun h => J.f18 (un h)), (fun h => J.f19 (un h)), (fun h => J.f20 (un h)), (fun h => J.f21 (un h)), (fun h => J.f22 (un h)), J.b⟩⟩
      · skip
        obtain rfl := J.f2 (haft ⟨2, .data⟩ (by simp) rfl)
        obtain ⟨q0, q1, q2, q3, q4, q5, q6, q7, q8, q9, q10⟩ := elevenC ((J.b.block _ hl0).trans HX.out)
        have hl := Nat.lt_of_lt_of_le hl0 J.b.size
        go_simp
        exact hK _ _ ⟨_, _, _, _, _, _, _, _, _, _, _, _, _, _, _, _, _, _, _, _, _, _, _, rfl, ⟨(fun h => J.f0 (un h)), (fun h => J.f1 (un h)), (fun h => J.f2 (un h)), (fun _ => rfl), (fun h => J.f4 (un h)), (fun h => J.f5 (un h)), (fun h => J.f6 (un h)), (fun h => J.f7 (un h)), (fun h => J.f8 (un h)), (fun h => J.f9 (un h)), (fun h => J.f10 (un h)), (fun h => J.f11 (un h)), (fun h => J.f12 (un h)), (fun h => J.f13 (un h)), (fun h => J.f14 (un h)), (fun h => J.f15 (un h)), (fun h => J.f16 (un h)), (fun h => J.f17 (un h)), (fun h => J.f18 (un h)), (fun h => J.f19 (un h)), (fun h => J.f20 (un h)), (fun h => J.f21 (un h)), (fun h => J.f22 (un h)), J.b⟩⟩
      · skip
        obtain rfl := J.f1 (haft ⟨1, .data⟩ (by simp) rfl)
        obtain rfl := J.f3 (haft ⟨3, .data⟩ (by simp) rfl)
        go_simp
        exact hK _ _ ⟨_, _, _, _, _, _, _, _, _, _, _, _, _, _, _, _, _, _, _, _, _, _, _, rfl, ⟨(fun h => J.f0 (un h)), (fun h => J.f1 (un h)), (fun h => J.f2 (un h)), (fun h => J.f3 (un h)), (fun _ => ⟨_, rfl, newestB _ _⟩), (fun h => J.f5 (un h)), (fun h => J.f6 (un h)), (fun h => J.f7 (un h)), (fun h => J.f8 (un h)), (fun h => J.f9 (un h)), (fun h => J.f10 (un h)), (fun h => J.f11 (un h)), (fun h => J.f12 (un h)), (fun h => J.f13 (un h)), (fun h => J.f14 (un h)), (fun h => J.f15 (un h)), (fun h => J.f16 (un h)), (fun h => J.f17 (un h)), (fun h => J.f18 (un h)), (fun h => J.f19 (un h)), (fun h => (J.f20 (un h)).elim fun b ⟨e, h⟩ => ⟨b, e, (Below.heap_alloc _ _ _ (Array.getElem?_eq_some_iff.1 h).1).trans h⟩), (fun h => J.f21 (un h)), (fun h => J.f22 (un h)), k_alloc J.b _⟩⟩
      · skip
        obtain ⟨bi, rfl, hbi⟩ := J.f4 (haft ⟨4, .data⟩ (by simp) rfl)
        go_simp
        go_wp2_with (go_at_call 17; refine (KL.out bi W hbi).mono ?_; rintro e W2 ⟨rfl, hb⟩)
        exact ⟨_, _, _, _, _, _, _, _, _, _, _, _, _, _, _, _, _, _, _, _, _, _, _, rfl, ⟨(fun h => J.f0 (un h)), (fun h => J.f1 (un h)), (fun h => J.f2 (un h)), (fun h => J.f3 (un h)), (fun h => (J.f4 (un h)).elim fun b ⟨e, h⟩ => ⟨b, e, (hb.block b (Array.getElem?_eq_some_iff.1 h).1).trans h⟩), (fun _ => rfl), (fun h => J.f6 (un h)), (fun h => J.f7 (un h)), (fun h => J.f8 (un h)), (fun h => J.f9 (un h)), (fun h => J.f10 (un h)), (fun h => J.f11 (un h)), (fun h => J.f12 (un h)), (fun h => J.f13 (un h)), (fun h => J.f14 (un h)), (fun h => J.f15 (un h)), (fun h => J.f16 (un h)), (fun h => J.f17 (un h)), (fun h => J.f18 (un h)), (fun h => J.f19 (un h)), (fun h => (J.f20 (un h)).elim fun b ⟨e, h⟩ => ⟨b, e, (hb.block b (Array.getElem?_eq_some_iff.1 h).1).trans h⟩), (fun h => J.f21 (un h)), (fun h => J.f22 (un h)), k_trans J.b hb⟩⟩
      · skip
        go_simp
        exact hK _ _ ⟨_, _, _, _, _, _, _, _, _, _, _, _, _, _, _, _, _, _, _, _, _, _, _, rfl, ⟨(fun h => J.f0 (un h)), (fun h => J.f1 (un h)), (fun h => J.f2 (un h)), (fun h => J.f3 (un h)), (fun h => J.f4 (un h)), (fun h => J.f5 (un h)), (fun _ => rfl), (fun h => J.f7 (un h)), (fun h => J.f8 (un h)), (fun h => J.f9 (un h)), (fun h => J.f10 (un h)), (fun h => J.f11 (un h)), (fun h => J.f12 (un h)), (fun h => J.f13 (un h)), (fun h => J.f14 (un h)), (fun h => J.f15 (un h)), (fun h => J.f16 (un h)), (fun h => J.f17 (un h)), (fun h => J.f18 (un h)), (fun h => J.f19 (un h)), (fun h => J.f20 (un h)), (fun h => J.f21 (un h)), (fun h => J.f22 (un h)), J.b⟩⟩
      · skip
        obtain rfl := J.f6 (haft ⟨6, .data⟩ (by simp) rfl)
        obtain ⟨q0, q1, q2, q3, q4, q5, q6, q7, q8, q9, q10⟩ := elevenC ((J.b.block _ hl0).trans HX.out)
        have hl := Nat.lt_of_lt_of_le hl0 J.b.size
        go_simp
        exact hK _ _ ⟨_, _, _, _, _, _, _, _, _, _, _, _, _, _, _, _, _, _, _, _, _, _, _, rfl, ⟨(fun h => J.f0 (un h)), (fun h => J.f1 (un h)), (fun h => J.f2 (un h)), (fun h => J.f3 (un h)), (fun h => J.f4 (un h)), (fun h => J.f5 (un h)), (fun h => J.f6 (un h)), (fun _ => rfl), (fun h => J.f8 (un h)), (fun h => J.f9 (un h)), (fun h => J.f10 (un h)), (fun h => J.f11 (un h)), (fun h => J.f12 (un h)), (fun h => J.f13 (un h)), (fun h => J.f14 (un h)), (fun h => J.f15 (un h)), (fun h => J.f16 (un h)), (fun h => J.f17 (un h)), (fun h => J.f18 (un h)), (fun h => J.f19 (un h)), (fun h => J.f20 (un h)), (fun h => J.f21 (un h)), (fun h => J.f22 (un h)), J.b⟩⟩
      · skip
        obtain rfl := J.f7 (haft ⟨7, .data⟩ (by simp) rfl)
        go_simp
        go_wp2_with (go_at_call 18; refine (K1.out W).mono ?_; rintro e W2 ⟨rfl, hb⟩)
        exact ⟨_, _, _, _, _, _, _, _, _, _, _, _, _, _, _, _, _, _, _, _, _, _, _, rfl, ⟨(fun h => J.f0 (un h)), (fun h => J.f1 (un h)), (fun h => J.f2 (un h)), (fun h => J.f3 (un h)), (fun h => (J.f4 (un h)).elim fun b ⟨e, h⟩ => ⟨b, e, (hb.block b (Array.getElem?_eq_some_iff.1 h).1).trans h⟩), (fun h => J.f5 (un h)), (fun h => J.f6 (un h)), (fun h => J.f7 (un h)), (fun _ => rfl), (fun h => J.f9 (un h)), (fun h => J.f10 (un h)), (fun h => J.f11 (un h)), (fun h => J.f12 (un h)), (fun h => J.f13 (un h)), (fun h => J.f14 (un h)), (fun h => J.f15 (un h)), (fun h => J.f16 (un h)), (fun h => J.f17 (un h)), (fun h => J.f18 (un h)), (fun h => J.f19 (un h)), (fun h => (J.f20 (un h)).elim fun b ⟨e, h⟩ => ⟨b, e, (hb.block b (Array.getElem?_eq_some_iff.1 h).1).trans h⟩), (fun h => J.f21 (un h)), (fun h => J.f22 (un h)), k_trans J.b hb⟩⟩
      · skip
        go_simp
        exact hK _ _ ⟨_, _, _, _, _, _, _, _, _, _, _, _, _, _, _, _, _, _, _, _, _, _, _, rfl, ⟨(fun h => J.f0 (un h)), (fun h => J.f1 (un h)), (fun h => J.f2 (un h)), (fun h => J.f3 (un h)), (fun h => J.f4 (un h)), (fun h => J.f5 (un h)), (fun h => J.f6 (un h)), (fun h => J.f7 (un h)), (fun h => J.f8 (un h)), (fun _ => rfl), (fun h => J.f10 (un h)), (fun h => J.f11 (un h)), (fun h => J.f12 (un h)), (fun h => J.f13 (un h)), (fun h => J.f14 (un h)), (fun h => J.f15 (un h)), (fun h => J.f16 (un h)), (fun h => J.f17 (un h)), (fun h => J.f18 (un h)), (fun h => J.f19 (un h)), (fun h => J.f20 (un h)), (fun h => J.f21 (un h)), (fun h => J.f22 (un h)), J.b⟩⟩
      · skip
        obtain rfl := J.f9 (haft ⟨9, .data⟩ (by simp) rfl)
        obtain ⟨q0, q1, q2, q3, q4, q5, q6, q7, q8, q9, q10⟩ := elevenC ((J.b.block _ hl0).trans HX.out)
        have hl := Nat.lt_of_lt_of_le hl0 J.b.size
        go_simp
        exact hK _ _ ⟨_, _, _, _, _, _, _, _, _, _, _, _, _, _, _, _, _, _, _, _, _, _, _, rfl, ⟨(fun h => J.f0 (un h)), (fun h => J.f1 (un h)), (fun h => J.f2 (un h)), (fun h => J.f3 (un h)), (fun h => J.f4 (un h)), (fun h => J.f5 (un h)), (fun h => J.f6 (un h)), (fun h => J.f7 (un h)), (fun h => J.f8 (un h)), (fun h => J.f9 (un h)), (fun _ => rfl), (fun h => J.f11 (un h)), (fun h => J.f12 (un h)), (fun h => J.f13 (un h)), (fun h => J.f14 (un h)), (fun h => J.f15 (un h)), (fun h => J.f16 (un h)), (fun h => J.f17 (un h)), (fun h => J.f18 (un h)), (fun h => J.f19 (un h)), (fun h => J.f20 (un h)), (fun h => J.f21 (un h)), (fun h => J.f22 (un h)), J.b⟩⟩
      · skip
        obtain rfl := J.f10 (haft ⟨10, .data⟩ (by simp) rfl)
        go_simp
        go_wp2_with (go_at_call 18; refine (K2.out W).mono ?_; rintro e W2 ⟨rfl, hb⟩)
        exact ⟨_, _, _, _, _, _, _, _, _, _, _, _, _, _, _, _, _, _, _, _, _, _, _, rfl, ⟨(fun h => J.f0 (un h)), (fun h => J.f1 (un h)), (fun h => J.f2 (un h)), (fun h => J.f3 (un h)), (fun h => (J.f4 (un h)).elim fun b ⟨e, h⟩ => ⟨b, e, (hb.block b (Array.getElem?_eq_some_iff.1 h).1).trans h⟩), (fun h => J.f5 (un h)), (fun h => J.f6 (un h)), (fun h => J.f7 (un h)), (fun h => J.f8 (un h)), (fun h => J.f9 (un h)), (fun h => J.f10 (un h)), (fun _ => rfl), (fun h => J.f12 (un h)), (fun h => J.f13 (un h)), (fun h => J.f14 (un h)), (fun h => J.f15 (un h)), (fun h => J.f16 (un h)), (fun h => J.f17 (un h)), (fun h => J.f18 (un h)), (fun h => J.f19 (un h)), (fun h => (J.f20 (un h)).elim fun b ⟨e, h⟩ => ⟨b, e, (hb.block b (Array.getElem?_eq_some_iff.1 h).1).trans h⟩), (fun h => J.f21 (un h)), (fun h => J.f22 (un h)), k_trans J.b hb⟩⟩
      · skip
        go_simp
        exact hK _ _ ⟨_, _, _, _, _, _, _, _, _, _, _, _, _, _, _, _, _, _, _, _, _, _, _, rfl, ⟨(fun h => J.f0 (un h)), (fun h => J.f1 (un h)), (fun h => J.f2 (un h)), (fun h => J.f3 (un h)), (fun h => J.f4 (un h)), (fun h => J.f5 (un h)), (fun h => J.f6 (un h)), (fun h => J.f7 (un h)), (fun h => J.f8 (un h)), (fun h => J.f9 (un h)), (fun h => J.f10 (un h)), (fun h => J.f11 (un h)), (fun _ => rfl), (fun h => J.f13 (un h)), (fun h => J.f14 (un h)), (fun h => J.f15 (un h)), (fun h => J.f16 (un h)), (fun h => J.f17 (un h)), (fun h => J.f18 (un h)), (fun h => J.f19 (un h)), (fun h => J.f20 (un h)), (fun h => J.f21 (un h)), (fun h => J.f22 (un h)), J.b⟩⟩
      · skip
        obtain rfl := J.f12 (haft ⟨12, .data⟩ (by simp) rfl)
        obtain ⟨q0, q1, q2, q3, q4, q5, q6, q7, q8, q9, q10⟩ := elevenC ((J.b.block _ hl0).trans HX.out)
        have hl := Nat.lt_of_lt_of_le hl0 J.b.size
        go_simp
        exact hK _ _ ⟨_, _, _, _, _, _, _, _, _, _, _, _, _, _, _, _, _, _, _, _, _, _, _, rfl, ⟨(fun h => J.f0 (un h)), (fun h => J.f1 (un h)), (fun h => J.f2 (un h)), (fun h => J.f3 (un h)), (fun h => J.f4 (un h)), (fun h => J.f5 (un h)), (fun h => J.f6 (un h)), (fun h => J.f7 (un h)), (fun h => J.f8 (un h)), (fun h => J.f9 (un h)), (fun h => J.f10 (un h)), (fun h => J.f11 (un h)), (fun h => J.f12 (un h)), (fun _ => rfl), (fun h => J.f14 (un h)), (fun h => J.f15 (un h)), (fun h => J.f16 (un h)), (fun h => J.f17 (un h)), (fun h => J.f18 (un h)), (fun h => J.f19 (un h)), (fun h => J.f20 (un h)), (fun h => J.f21 (un h)), (fun h => J.f22 (un h)), J.b⟩⟩
      · skip
        obtain rfl := J.f13 (haft ⟨13, .data⟩ (by simp) rfl)
        go_simp
        go_wp2_with (go_at_call 18; refine (K3.out W).mono ?_; rintro e W2 ⟨rfl, hb⟩)
        exact ⟨_, _, _, _, _, _, _, _, _, _, _, _, _, _, _, _, _, _, _, _, _, _, _, rfl, ⟨(fun h => J.f0 (un h)), (fun h => J.f1 (un h)), (fun h => J.f2 (un h)), (fun h => J.f3 (un h)), (fun h => (J.f4 (un h)).elim fun b ⟨e, h⟩ => ⟨b, e, (hb.block b (Array.getElem?_eq_some_iff.1 h).1).trans h⟩), (fun h => J.f5 (un h)), (fun h => J.f6 (un h)), (fun h => J.f7 (un h)), (fun h => J.f8 (un h)), (fun h => J.f9 (un h)), (fun h => J.f10 (un h)), (fun h => J.f11 (un h)), (fun h => J.f12 (un h)), (fun h => J.f13 (un h)), (fun _ => rfl), (fun h => J.f15 (un h)), (fun h => J.f16 (un h)), (fun h => J.f17 (un h)), (fun h => J.f18 (un h)), (fun h => J.f19 (un h)), (fun h => (J.f20 (un h)).elim fun b ⟨e, h⟩ => ⟨b, e, (hb.block b (Array.getElem?_eq_some_iff.1 h).1).trans h⟩), (fun h => J.f21 (un h)), (fun h => J.f22 (un h)), k_trans J.b hb⟩⟩
      · skip
        go_simp
        exact hK _ _ ⟨_, _, _, _, _, _, _, _, _, _, _, _, _, _, _, _, _, _, _, _, _, _, _, rfl, ⟨(fun h => J.f0 (un h)), (fun h => J.f1 (un h)), (fun h => J.f2 (un h)), (fun h => J.f3 (un h)), (fun h => J.f4 (un h)), (fun h => J.f5 (un h)), (fun h => J.f6 (un h)), (fun h => J.f7 (un h)), (fun h => J.f8 (un h)), (fun h => J.f9 (un h)), (fun h => J.f10 (un h)), (fun h => J.f11 (un h)), (fun h => J.f12 (un h)), (fun h => J.f13 (un h)), (fun h => J.f14 (un h)), (fun _ => rfl), (fun h => J.f16 (un h)), (fun h => J.f17 (un h)), (fun h => J.f18 (un h)), (fun h => J.f19 (un h)), (fun h => J.f20 (un h)), (fun h => J.f21 (un h)), (fun h => J.f22 (un h)), J.b⟩⟩
      · skip
        obtain rfl := J.f15 (haft ⟨15, .data⟩ (by simp) rfl)
        obtain ⟨q0, q1, q2, q3, q4, q5, q6, q7, q8, q9, q10⟩ := elevenC ((J.b.block _ hl0).trans HX.out)
        have hl := Nat.lt_of_lt_of_le hl0 J.b.size
        go_simp
        exact hK _ _ ⟨_, _, _, _, _, _, _, _, _, _, _, _, _, _, _, _, _, _, _, _, _, _, _, rfl, ⟨(fun h => J.f0 (un h)), (fun h => J.f1 (un h)), (fun h => J.f2 (un h)), (fun h => J.f3 (un h)), (fun h => J.f4 (un h)), (fun h => J.f5 (un h)), (fun h => J.f6 (un h)), (fun h => J.f7 (un h)), (fun h => J.f8 (un h)), (fun h => J.f9 (un h)), (fun h => J.f10 (un h)), (fun h => J.f11 (un h)), (fun h => J.f12 (un h)), (fun h => J.f13 (un h)), (fun h => J.f14 (un h)), (fun h => J.f15 (un h)), (fun _ => rfl), (fun h => J.f17 (un h)), (fun h => J.f18 (un h)), (fun h => J.f19 (un h)), (fun h => J.f20 (un h)), (fun h => J.f21 (un h)), (fun h => J.f22 (un h)), J.b⟩⟩
      · skip
        obtain rfl := J.f16 (haft ⟨16, .data⟩ (by simp) rfl)
        go_simp
        go_wp2_with (go_at_call 18; refine (K4.out W).mono ?_; rintro e W2 ⟨rfl, hb⟩)
        exact ⟨_, _, _, _, _, _, _, _, _, _, _, _, _, _, _, _, _, _, _, _, _, _, _, rfl, ⟨(fun h => J.f0 (un h)), (fun h => J.f1 (un h)), (fun h => J.f2 (un h)), (fun h => J.f3 (un h)), (fun h => (J.f4 (un h)).elim fun b ⟨e, h⟩ => ⟨b, e, (hb.block b (Array.getElem?_eq_some_iff.1 h).1).trans h⟩), (fun h => J.f5 (un h)), (fun h => J.f6 (un h)), (fun h => J.f7 (un h)), (fun h => J.f8 (un h)), (fun h => J.f9 (un h)), (fun h => J.f10 (un h)), (fun h => J.f11 (un h)), (fun h => J.f12 (un h)), (fun h => J.f13 (un h)), (fun h => J.f14 (un h)), (fun h => J.f15 (un h)), (fun h => J.f16 (un h)), (fun _ => rfl), (fun h => J.f18 (un h)), (fun h => J.f19 (un h)), (fun h => (J.f20 (un h)).elim fun b ⟨e, h⟩ => ⟨b, e, (hb.block b (Array.getElem?_eq_some_iff.1 h).1).trans h⟩), (fun h => J.f21 (un h)), (fun h => J.f22 (un h)), k_trans J.b hb⟩⟩
      · skip
        go_simp
        exact hK _ _ ⟨_, _, _, _, _, _, _, _, _, _, _, _, _, _, _, _, _, _, _, _, _, _, _, rfl, ⟨(fun h => J.f0 (un h)), (fun h => J.f1 (un h)), (fun h => J.f2 (un h)), (fun h => J.f3 (un h)), (fun h => J.f4 (un h)), (fun h => J.f5 (un h)), (fun h => J.f6 (un h)), (fun h => J.f7 (un h)), (fun h => J.f8 (un h)), (fun h => J.f9 (un h)), (fun h => J.f10 (un h)), (fun h => J.f11 (un h)), (fun h => J.f12 (un h)), (fun h => J.f13 (un h)), (fun h => J.f14 (un h)), (fun h => J.f15 (un h)), (fun h => J.f16 (un h)), (fun h => J.f17 (un h)), (fun _ => rfl), (fun h => J.f19 (un h)), (fun h => J.f20 (un h)), (fun h => J.f21 (un h)), (fun h => J.f22 (un h)), J.b⟩⟩
      · skip
        obtain rfl := J.f18 (haft ⟨18, .data⟩ (by simp) rfl)
        obtain ⟨q0, q1, q2, q3, q4, q5, q6, q7, q8, q9, q10⟩ := elevenC ((J.b.block _ hl0).trans HX.out)
        have hl := Nat.lt_of_lt_of_le hl0 J.b.size
        go_simp
        exact hK _ _ ⟨_, _, _, _, _, _, _, _, _, _, _, _, _, _, _, _, _, _, _, _, _, _, _, rfl, ⟨(fun h => J.f0 (un h)), (fun h => J.f1 (un h)), (fun h => J.f2 (un h)), (fun h => J.f3 (un h)), (fun h => J.f4 (un h)), (fun h => J.f5 (un h)), (fun h => J.f6 (un h)), (fun h => J.f7 (un h)), (fun h => J.f8 (un h)), (fun h => J.f9 (un h)), (fun h => J.f10 (un h)), (fun h => J.f11 (un h)), (fun h => J.f12 (un h)), (fun h => J.f13 (un h)), (fun h => J.f14 (un h)), (fun h => J.f15 (un h)), (fun h => J.f16 (un h)), (fun h => J.f17 (un h)), (fun h => J.f18 (un h)), (fun _ => rfl), (fun h => J.f20 (un h)), (fun h => J.f21 (un h)), (fun h => J.f22 (un h)), J.b⟩⟩
      · skip
        obtain rfl := J.f5 (haft ⟨5, .data⟩ (by simp) rfl)
        obtain rfl := J.f8 (haft ⟨8, .data⟩ (by simp) rfl)
        obtain rfl := J.f11 (haft ⟨11, .data⟩ (by simp) rfl)
        obtain rfl := J.f14 (haft ⟨14, .data⟩ (by simp) rfl)
        obtain rfl := J.f17 (haft ⟨17, .data⟩ (by simp) rfl)
        obtain rfl := J.f19 (haft ⟨19, .data⟩ (by simp) rfl)
        go_simp
        exact hK _ _ ⟨_, _, _, _, _, _, _, _, _, _, _, _, _, _, _, _, _, _, _, _, _, _, _, rfl, ⟨(fun h => J.f0 (un h)), (fun h => J.f1 (un h)), (fun h => J.f2 (un h)), (fun h => J.f3 (un h)), (fun h => (J.f4 (un h)).elim fun b ⟨e, h⟩ => ⟨b, e, (Below.heap_alloc _ _ _ (Array.getElem?_eq_some_iff.1 h).1).trans h⟩), (fun h => J.f5 (un h)), (fun h => J.f6 (un h)), (fun h => J.f7 (un h)), (fun h => J.f8 (un h)), (fun h => J.f9 (un h)), (fun h => J.f10 (un h)), (fun h => J.f11 (un h)), (fun h => J.f12 (un h)), (fun h => J.f13 (un h)), (fun h => J.f14 (un h)), (fun h => J.f15 (un h)), (fun h => J.f16 (un h)), (fun h => J.f17 (un h)), (fun h => J.f18 (un h)), (fun h => J.f19 (un h)), (fun _ => ⟨_, rfl, newestB _ _⟩), (fun h => J.f21 (un h)), (fun h => J.f22 (un h)), k_alloc J.b _⟩⟩
      · skip
        obtain ⟨bs, rfl, hbs⟩ := J.f20 (haft ⟨20, .data⟩ (by simp) rfl)
        go_simp
        go_wp2_with (go_at_call 16; refine (KJ.out bs W hbs).mono ?_; rintro e W2 ⟨rfl, hb⟩)
        exact ⟨_, _, _, _, _, _, _, _, _, _, _, _, _, _, _, _, _, _, _, _, _, _, _, rfl, ⟨(fun h => J.f0 (un h)), (fun h => J.f1 (un h)), (fun h => J.f2 (un h)), (fun h => J.f3 (un h)), (fun h => (J.f4 (un h)).elim fun b ⟨e, h⟩ => ⟨b, e, (hb.block b (Array.getElem?_eq_some_iff.1 h).1).trans h⟩), (fun h => J.f5 (un h)), (fun h => J.f6 (un h)), (fun h => J.f7 (un h)), (fun h => J.f8 (un h)), (fun h => J.f9 (un h)), (fun h => J.f10 (un h)), (fun h => J.f11 (un h)), (fun h => J.f12 (un h)), (fun h => J.f13 (un h)), (fun h => J.f14 (un h)), (fun h => J.f15 (un h)), (fun h => J.f16 (un h)), (fun h => J.f17 (un h)), (fun h => J.f18 (un h)), (fun h => J.f19 (un h)), (fun h => (J.f20 (un h)).elim fun b ⟨e, h⟩ => ⟨b, e, (hb.block b (Array.getElem?_eq_some_iff.1 h).1).trans h⟩), (fun _ => rfl), (fun h => J.f22 (un h)), k_trans J.b hb⟩⟩
      · skip
        obtain rfl := J.f21 (haft ⟨21, .data⟩ (by simp) rfl)
        go_simp
        exact hK _ _ ⟨_, _, _, _, _, _, _, _, _, _, _, _, _, _, _, _, _, _, _, _, _, _, _, rfl, ⟨(fun h => J.f0 (un h)), (fun h => J.f1 (un h)), (fun h => J.f2 (un h)), (fun h => J.f3 (un h)), (fun h => J.f4 (un h)), (fun h => J.f5 (un h)), (fun h => J.f6 (un h)), (fun h => J.f7 (un h)), (fun h => J.f8 (un h)), (fun h => J.f9 (un h)), (fun h => J.f10 (un h)), (fun h => J.f11 (un h)), (fun h => J.f12 (un h)), (fun h => J.f13 (un h)), (fun h => J.f14 (un h)), (fun h => J.f15 (un h)), (fun h => J.f16 (un h)), (fun h => J.f17 (un h)), (fun h => J.f18 (un h)), (fun h => J.f19 (un h)), (fun h => J.f20 (un h)), (fun h => J.f21 (un h)), (fun _ => rfl), J.b⟩⟩
end Go.Proofs.YtggmjiddadjilaqDoor
