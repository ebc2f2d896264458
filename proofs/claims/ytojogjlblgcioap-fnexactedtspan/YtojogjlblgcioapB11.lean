/-
  PROVED HERE: what the closure of the program's EdtSpan does: it writes over how many columns and rows one cell of the copy goes, and turns nothing else that was in memory. Also: what the program's behind answers with the closure of EdtSpan: what the copy is behind the closure, or the copy as it was; nothing else is turned. Also: a table that is owned, behind a write into one place of one of its cells. Also: what the program's cellsIn and hasCell answer: how many cells a row has, and whether there is a cell at a place; nothing that was in memory is turned.
-/
import Derived.Test.YtojogjlblgcioapB10
import Derived.Deep.Cut
namespace Go.Proofs.Ytojogjlblgcioap
open Go.RowKit

structure EnJ (h a : Nat) (cv rv : Int) (W3 : World) (L : Nat → Bool) (W : World) (v14 v15 v16 v17 v18 v19 v20 v21 : Value) : Prop where
  f0 : L 0 = true → v14 = .pointer (some ⟨h, a * 11, none⟩)
  f1 : L 1 = true → v15 = .pointer (some ⟨h, a * 11, none⟩)
  f2 : L 2 = true → v16 = .int .i64 cv
  f3 : L 3 = true → v17 = .int .i64 rv
  f4 : L 4 = true → v18 = .pointer (some ⟨h, a * 11, none⟩)
  f5 : L 5 = true → v19 = .pointer (some ⟨h, a * 11 + 1, none⟩)
  f7 : L 7 = true → v20 = .pointer (some ⟨h, a * 11, none⟩)
  f8 : L 8 = true → v21 = .pointer (some ⟨h, a * 11 + 2, none⟩)
  m0 : L 6 = false → L 9 = false → W = W3.drew
  m1 : L 6 = true → L 9 = false → W = W3.drew.setCell ⟨h, a * 11 + 1, none⟩ (.int .i64 cv)
  m2 : L 6 = false → L 9 = true → W = W3.drew.setCell ⟨h, a * 11 + 2, none⟩ (.int .i64 rv)
  m3 : L 6 = true → L 9 = true → W = (W3.drew.setCell ⟨h, a * 11 + 1, none⟩ (.int .i64 cv)).setCell ⟨h, a * 11 + 2, none⟩ (.int .i64 rv) ∨ W = (W3.drew.setCell ⟨h, a * 11 + 2, none⟩ (.int .i64 rv)).setCell ⟨h, a * 11 + 1, none⟩ (.int .i64 cv)
theorem EnJ.ways {h a : Nat} {cv rv : Int} {W3 : World} {L : Nat → Bool} {W : World} {v14 v15 v16 v17 v18 v19 v20 v21 : Value} (J : EnJ h a cv rv W3 L W v14 v15 v16 v17 v18 v19 v20 v21) : W = W3.drew ∨ W = W3.drew.setCell ⟨h, a * 11 + 1, none⟩ (.int .i64 cv) ∨ W = W3.drew.setCell ⟨h, a * 11 + 2, none⟩ (.int .i64 rv) ∨ W = (W3.drew.setCell ⟨h, a * 11 + 1, none⟩ (.int .i64 cv)).setCell ⟨h, a * 11 + 2, none⟩ (.int .i64 rv) ∨ W = (W3.drew.setCell ⟨h, a * 11 + 2, none⟩ (.int .i64 rv)).setCell ⟨h, a * 11 + 1, none⟩ (.int .i64 cv) := by
  cases h6 : L 6 <;> cases h9 : L 9
  · exact .inl (J.m0 h6 h9)
  · exact .inr (.inr (.inl (J.m2 h6 h9)))
  · exact .inr (.inl (J.m1 h6 h9))
  · exact .inr (.inr (.inr (J.m3 h6 h9)))
theorem EnJ.box {h a : Nat} {cv rv : Int} {W3 : World} {L : Nat → Bool} {W : World} {v14 v15 v16 v17 v18 v19 v20 v21 : Value} (J : EnJ h a cv rv W3 L W v14 v15 v16 v17 v18 v19 v20 v21) {b : Nat} (hb : b ≠ h) : W.heap[b]? = W3.heap[b]? := by
  have k : ∀ (w : World) (o : Nat) (v : Value), (w.setCell ⟨h, o, none⟩ v).heap[b]? = w.heap[b]? := fun w o v => Below.heap_setCell _ _ _ _ hb
  rcases J.ways with rfl | rfl | rfl | rfl | rfl <;> (try rw [k]) <;> (try rw [k]) <;> rfl
theorem EnJ.blk {h a : Nat} {cv rv : Int} {W3 : World} {L : Nat → Bool} {W : World} {v14 v15 v16 v17 v18 v19 v20 v21 : Value} (J : EnJ h a cv rv W3 L W v14 v15 v16 v17 v18 v19 v20 v21) {cur : Array Value} (hh : W3.heap[h]? = some (.cells cur 51)) : ∃ arr, W.heap[h]? = some (.cells arr 51) ∧ arr.size = cur.size := by
  have hd : W3.drew.heap[h]? = some (.cells cur 51) := hh
  rcases J.ways with rfl | rfl | rfl | rfl | rfl
  · exact ⟨cur, hd, rfl⟩
  · exact ⟨_, setB hd _, by simp⟩
  · exact ⟨_, setB hd _, by simp⟩
  · exact ⟨_, setB (setB hd _) _, by simp⟩
  · exact ⟨_, setB (setB hd _) _, by simp⟩
set_option maxRecDepth 100000 in
set_option maxHeartbeats 4000000 in
theorem closSpan (xb rb ab cb rb2 g h r a n c2 m cu : Nat) (a1 : Option Addr) (cl c1 : Nat) (hd ft gp : Value) (cv rv : Int) (arr cur : Array Value) (w : World)
    (hx : w.heap[xb]? = some (.cells #[.slice a1 cl c1, hd, ft, .slice (some ⟨g, 0, none⟩) n c2, gp] 30)) (hrb : w.heap[rb]? = some (.cells #[.int .i64 (r : Int)] 3)) (hab : w.heap[ab]? = some (.cells #[.int .i64 (a : Int)] 3)) (hcb : w.heap[cb]? = some (.cells #[.int .i64 cv] 3)) (hrb2 : w.heap[rb2]? = some (.cells #[.int .i64 rv] 3))
    (hg : w.heap[g]? = some (.cells arr 46)) (hr : r < n) (hq : arr[r * 2]? = some (.slice (some ⟨h, 0, none⟩) m cu)) (hh : w.heap[h]? = some (.cells cur 51)) (ha : a < m) (hm : m ≤ cu) (hsz : cur.size = cu * 11) :
    Calls Try.prog 34 #[.pointer (some ⟨xb, 0, none⟩), .pointer (some ⟨rb, 0, none⟩), .pointer (some ⟨ab, 0, none⟩), .pointer (some ⟨cb, 0, none⟩), .pointer (some ⟨rb2, 0, none⟩)] w fun e w' => e = .returned (.tuple #[]) ∧ ∃ W9, Below w.heap.size w W9 ∧ (w' = (W9.drew.setCell ⟨h, a * 11 + 1, none⟩ (.int .i64 cv)).setCell ⟨h, a * 11 + 2, none⟩ (.int .i64 rv) ∨ w' = (W9.drew.setCell ⟨h, a * 11 + 2, none⟩ (.int .i64 rv)).setCell ⟨h, a * 11 + 1, none⟩ (.int .i64 cv)) := by
  have hmx : Try.prog.follows .mixedOrders = true := by kernel_rfl
  have e1 : cb ≠ h := fun e => by subst e; rw [hh] at hcb; simp at hcb
  have e2 : rb2 ≠ h := fun e => by subst e; rw [hh] at hrb2; simp at hrb2
  have z3 := bw_cell (a := ⟨xb, 3, none⟩) (Array.getElem?_eq_some_iff.1 hx).1 (cellB (p := 3) hx)
  have zr := bw_cell (a := ⟨rb, 0, none⟩) (Array.getElem?_eq_some_iff.1 hrb).1 (cellB (p := 0) hrb)
  have za := bw_cell (a := ⟨ab, 0, none⟩) (Array.getElem?_eq_some_iff.1 hab).1 (cellB (p := 0) hab)
  have zg := bw_cell (a := ⟨g, r * 2, none⟩) (Array.getElem?_eq_some_iff.1 hg).1 ((cellB hg).trans hq)
  have hne := bw_some w
  have HCb0 := Hid.intro hcb
  have HRb0 := Hid.intro hrb2
  have HH0 := Hid.intro hh
  have hlh := (Array.getElem?_eq_some_iff.1 hh).1
  have hlc := (Array.getElem?_eq_some_iff.1 hcb).1
  have hlr := (Array.getElem?_eq_some_iff.1 hrb2).1
  have has : a * 11 + 2 < cur.size := by omega
  clear hx hrb hab hg hq hh hcb hrb2
  go_enter Try.func34, Try.ntmps34
  go_upto_region 0 with fail
  refine wp_region_quiet_below hmx (by kernel_rfl) ?_
  repeat (go_big_quiet_step (fail))
  refine wpQuiet_nil ?_
  intro W1 hw'
  obtain ⟨⟨Wx, hW1⟩, hw''⟩ := hw'
  subst hw''
  have HB1 := Hid.intro hW1
  have HCb := Hid.intro ((hW1.block cb hlc).trans HCb0.out)
  have HRb2 := Hid.intro ((hW1.block rb2 hlr).trans HRb0.out)
  have HH := Hid.intro ((hW1.block h hlh).trans HH0.out)
  have hcb := e1
  have hrb2 := e2
  clear z3 zr za zg hne hW1
  go_upto_region 1 with fail
  refine wp_region_inv2 (fun L act W => ∃ v14 v15 v16 v17 v18 v19 v20 v21 : Value, act = ⟨#[.pointer (some ⟨xb, 0, none⟩), .pointer (some ⟨rb, 0, none⟩), .pointer (some ⟨ab, 0, none⟩), .pointer (some ⟨cb, 0, none⟩), .pointer (some ⟨rb2, 0, none⟩), .pointer (some ⟨h, a * 11, none⟩), .pointer (some ⟨xb, 3, none⟩), .slice (some ⟨g, 0, none⟩) n c2, .int .i64 r, .pointer (some ⟨g, r * 2, none⟩), .pointer (some ⟨g, r * 2, none⟩), .slice (some ⟨h, 0, none⟩) m cu, .int .i64 a, .pointer (some ⟨h, a * 11, none⟩), v14, v15, v16, v17, v18, v19, v20, v21], []⟩ ∧ EnJ h a cv rv W1 L W v14 v15 v16 v17 v18 v19 v20 v21) hmx (by kernel_rfl) ?hs ?hd ?h0
  case h0 => exact ⟨_, _, _, _, _, _, _, _, rfl, ⟨(fun h => by cases h), (fun h => by cases h), (fun h => by cases h), (fun h => by cases h), (fun h => by cases h), (fun h => by cases h), (fun h => by cases h), (fun h => by cases h), (fun _ _ => rfl), (fun h => by cases h), (fun _ h => by cases h), (fun h => by cases h)⟩⟩
  case hd =>
    intro L act W hJ hall
    obtain ⟨v14, v15, v16, v17, v18, v19, v20, v21, ha, J⟩ := hJ
    subst ha
    have hm := J.m3 (hall 6 (by decide)) (hall 9 (by decide))
    clear J hall
    go_wp2
    go_end0
    exact ⟨rfl, W1, HB1.out, hm⟩
  case hs =>
    intro L act W i o hJ hcl ho hLi haft K hK
    obtain ⟨v14, v15, v16, v17, v18, v19, v20, v21, ha, J⟩ := hJ
    subst ha
    have hi' : i < 10 := by
      have := (Array.getElem?_eq_some_iff.1 ho).1
      simpa using this
    rcases (by omega : i = 0 ∨ i = 1 ∨ i = 2 ∨ i = 3 ∨ i = 4 ∨ i = 5 ∨ i = 6 ∨ i = 7 ∨ i = 8 ∨ i = 9) with rfl | rfl | rfl | rfl | rfl | rfl | rfl | rfl | rfl | rfl
    all_goals
      simp only [List.getElem?_toArray, List.getElem?_cons_zero, List.getElem?_cons_succ, Option.some.injEq] at ho
      subst ho
      clear hi'
    · skip
      go_simp
      exact hK _ _ ⟨_, _, _, _, _, _, _, _, rfl, ⟨(fun _ => rfl), (fun h => J.f1 (un h)), (fun h => J.f2 (un h)), (fun h => J.f3 (un h)), (fun h => J.f4 (un h)), (fun h => J.f5 (un h)), (fun h => J.f7 (un h)), (fun h => J.f8 (un h)), (fun h1 h2 => J.m0 (un h1) (un h2)), (fun h1 h2 => J.m1 (un h1) (un h2)), (fun h1 h2 => J.m2 (un h1) (un h2)), (fun h1 h2 => J.m3 (un h1) (un h2))⟩⟩
    · skip
      go_simp
      exact hK _ _ ⟨_, _, _, _, _, _, _, _, rfl, ⟨(fun h => J.f0 (un h)), (fun _ => rfl), (fun h => J.f2 (un h)), (fun h => J.f3 (un h)), (fun h => J.f4 (un h)), (fun h => J.f5 (un h)), (fun h => J.f7 (un h)), (fun h => J.f8 (un h)), (fun h1 h2 => J.m0 (un h1) (un h2)), (fun h1 h2 => J.m1 (un h1) (un h2)), (fun h1 h2 => J.m2 (un h1) (un h2)), (fun h1 h2 => J.m3 (un h1) (un h2))⟩⟩
    · skip
      have q0 := cellB (p := 0) ((J.box hcb).trans HCb.out)
      go_simp
      exact hK _ _ ⟨_, _, _, _, _, _, _, _, rfl, ⟨(fun h => J.f0 (un h)), (fun h => J.f1 (un h)), (fun _ => rfl), (fun h => J.f3 (un h)), (fun h => J.f4 (un h)), (fun h => J.f5 (un h)), (fun h => J.f7 (un h)), (fun h => J.f8 (un h)), (fun h1 h2 => J.m0 (un h1) (un h2)), (fun h1 h2 => J.m1 (un h1) (un h2)), (fun h1 h2 => J.m2 (un h1) (un h2)), (fun h1 h2 => J.m3 (un h1) (un h2))⟩⟩
    · skip
      have q0 := cellB (p := 0) ((J.box hrb2).trans HRb2.out)
      go_simp
      exact hK _ _ ⟨_, _, _, _, _, _, _, _, rfl, ⟨(fun h => J.f0 (un h)), (fun h => J.f1 (un h)), (fun h => J.f2 (un h)), (fun _ => rfl), (fun h => J.f4 (un h)), (fun h => J.f5 (un h)), (fun h => J.f7 (un h)), (fun h => J.f8 (un h)), (fun h1 h2 => J.m0 (un h1) (un h2)), (fun h1 h2 => J.m1 (un h1) (un h2)), (fun h1 h2 => J.m2 (un h1) (un h2)), (fun h1 h2 => J.m3 (un h1) (un h2))⟩⟩
    · skip
      obtain rfl := J.f0 (haft ⟨0, .data⟩ (by simp) rfl)
      go_simp
      exact hK _ _ ⟨_, _, _, _, _, _, _, _, rfl, ⟨(fun h => J.f0 (un h)), (fun h => J.f1 (un h)), (fun h => J.f2 (un h)), (fun h => J.f3 (un h)), (fun _ => rfl), (fun h => J.f5 (un h)), (fun h => J.f7 (un h)), (fun h => J.f8 (un h)), (fun h1 h2 => J.m0 (un h1) (un h2)), (fun h1 h2 => J.m1 (un h1) (un h2)), (fun h1 h2 => J.m2 (un h1) (un h2)), (fun h1 h2 => J.m3 (un h1) (un h2))⟩⟩
    · skip
      obtain rfl := J.f4 (haft ⟨4, .data⟩ (by simp) rfl)
      go_simp
      exact hK _ _ ⟨_, _, _, _, _, _, _, _, rfl, ⟨(fun h => J.f0 (un h)), (fun h => J.f1 (un h)), (fun h => J.f2 (un h)), (fun h => J.f3 (un h)), (fun h => J.f4 (un h)), (fun _ => rfl), (fun h => J.f7 (un h)), (fun h => J.f8 (un h)), (fun h1 h2 => J.m0 (un h1) (un h2)), (fun h1 h2 => J.m1 (un h1) (un h2)), (fun h1 h2 => J.m2 (un h1) (un h2)), (fun h1 h2 => J.m3 (un h1) (un h2))⟩⟩
    · skip
      obtain rfl := J.f5 (haft ⟨5, .data⟩ (by simp) rfl)
      obtain rfl := J.f2 (haft ⟨2, .data⟩ (by simp) rfl)
      obtain ⟨arr9, hb9, hs9⟩ := J.blk HH.out
      obtain ⟨y0, hy0⟩ := someB (p := a * 11 + 1) hb9 (by omega)
      have fz := freeB (p := a * 11 + 1) hb9
      go_simp
      exact hK _ _ ⟨_, _, _, _, _, _, _, _, rfl, ⟨(fun h => J.f0 (un h)), (fun h => J.f1 (un h)), (fun h => J.f2 (un h)), (fun h => J.f3 (un h)), (fun h => J.f4 (un h)), (fun h => J.f5 (un h)), (fun h => J.f7 (un h)), (fun h => J.f8 (un h)), (fun h1 _ => absurd (h1.symm.trans upd_self) (by simp)), (fun _ h2 => by rw [J.m0 hLi (un h2)]), (fun h1 _ => absurd (h1.symm.trans upd_self) (by simp)), (fun _ h2 => .inr (by rw [J.m2 hLi (un h2)]))⟩⟩
    · skip
      obtain rfl := J.f1 (haft ⟨1, .data⟩ (by simp) rfl)
      go_simp
      exact hK _ _ ⟨_, _, _, _, _, _, _, _, rfl, ⟨(fun h => J.f0 (un h)), (fun h => J.f1 (un h)), (fun h => J.f2 (un h)), (fun h => J.f3 (un h)), (fun h => J.f4 (un h)), (fun h => J.f5 (un h)), (fun _ => rfl), (fun h => J.f8 (un h)), (fun h1 h2 => J.m0 (un h1) (un h2)), (fun h1 h2 => J.m1 (un h1) (un h2)), (fun h1 h2 => J.m2 (un h1) (un h2)), (fun h1 h2 => J.m3 (un h1) (un h2))⟩⟩
    · skip
      obtain rfl := J.f7 (haft ⟨7, .data⟩ (by simp) rfl)
      go_simp
      exact hK _ _ ⟨_, _, _, _, _, _, _, _, rfl, ⟨(fun h => J.f0 (un h)), (fun h => J.f1 (un h)), (fun h => J.f2 (un h)), (fun h => J.f3 (un h)), (fun h => J.f4 (un h)), (fun h => J.f5 (un h)), (fun h => J.f7 (un h)), (fun _ => rfl), (fun h1 h2 => J.m0 (un h1) (un h2)), (fun h1 h2 => J.m1 (un h1) (un h2)), (fun h1 h2 => J.m2 (un h1) (un h2)), (fun h1 h2 => J.m3 (un h1) (un h2))⟩⟩
    · skip
      obtain rfl := J.f8 (haft ⟨8, .data⟩ (by simp) rfl)
      obtain rfl := J.f3 (haft ⟨3, .data⟩ (by simp) rfl)
      obtain ⟨arr9, hb9, hs9⟩ := J.blk HH.out
      obtain ⟨y0, hy0⟩ := someB (p := a * 11 + 2) hb9 (by omega)
      have fz := freeB (p := a * 11 + 2) hb9
      go_simp
      exact hK _ _ ⟨_, _, _, _, _, _, _, _, rfl, ⟨(fun h => J.f0 (un h)), (fun h => J.f1 (un h)), (fun h => J.f2 (un h)), (fun h => J.f3 (un h)), (fun h => J.f4 (un h)), (fun h => J.f5 (un h)), (fun h => J.f7 (un h)), (fun h => J.f8 (un h)), (fun _ h1 => absurd (h1.symm.trans upd_self) (by simp)), (fun _ h1 => absurd (h1.symm.trans upd_self) (by simp)), (fun h2 _ => by rw [J.m0 (un h2) hLi]), (fun h2 _ => .inl (by rw [J.m1 (un h2) hLi]))⟩⟩
end Go.Proofs.Ytojogjlblgcioap
namespace Go.Proofs.Ytojogjlblgcioap
open Go.RowKit

set_option maxRecDepth 100000 in
set_option maxHeartbeats 2000000 in
theorem behindSpan_no (xb : Nat) (p0 p1 p2 p3 p4 : Value) (a0 a3 : Option Addr) (n0 c0 n3 c3 : Nat) (i1 i2 i4 : Int) (w : World) (hx : w.heap[xb]? = some (.cells #[.slice a0 n0 c0, .int .i64 i1, .int .i64 i2, .slice a3 n3 c3, .int .i64 i4] 30)) :
    Calls Try.prog 25 #[.pointer (some ⟨xb, 0, none⟩), .bool false, .func (.func 34) #[] #[p0, p1, p2, p3, p4]] w fun e w' => e = .returned (.tuple #[.agg #[.slice a0 n0 c0, .int .i64 i1, .int .i64 i2, .slice a3 n3 c3, .int .i64 i4], .bool false]) ∧ Below w.heap.size w w' := by
  have hX := (Below.heap_alloc w (.cells #[.slice none 0 0, .int .i64 0, .int .i64 0, .slice none 0 0, .int .i64 0] 30) xb (Array.getElem?_eq_some_iff.1 hx).1).trans hx
  have hZ := newestB w (.cells #[.slice none 0 0, .int .i64 0, .int .i64 0, .slice none 0 0, .int .i64 0] 30)
  have HK := Hid.intro (k_alloc (Below.refl w.heap.size w) (.cells #[.slice none 0 0, .int .i64 0, .int .i64 0, .slice none 0 0, .int .i64 0] 30))
  have HX := Hid.intro hX
  have HZ := Hid.intro hZ
  clear hx hX hZ
  go_enter Try.func25, Try.ntmps25
  go_upto_region 1 with fail
  generalize w.alloc (.cells #[.slice none 0 0, .int .i64 0, .int .i64 0, .slice none 0 0, .int .i64 0] 30) = W0 at HK HX HZ ⊢
  obtain ⟨z0, z1, z2, z3, z4⟩ := fiveO HX.out
  obtain ⟨d0, d1, d2, d3, d4⟩ := fiveO HZ.out
  have fz : ∀ p, W0.frozen? ⟨w.heap.size, p, none⟩ = false := fun p => freeB HZ.out
  go_wp2
  exact bodyPost_ret (v := .tuple #[.agg #[.slice a0 n0 c0, .int .i64 i1, .int .i64 i2, .slice a3 n3 c3, .int .i64 i4], .bool false]) (by simp [results, Try.results25, go_sem, d0, d1, d2, d3, d4]) rfl ⟨rfl, k_set (k_set (k_set (k_set (k_set HK.out (Nat.le_refl _) _) (Nat.le_refl _) _) (Nat.le_refl _) _) (Nat.le_refl _) _) (Nat.le_refl _) _⟩
set_option maxRecDepth 100000 in
set_option maxHeartbeats 2000000 in
theorem behindSpan_yes (xb : Nat) (p0 p1 p2 p3 p4 : Value) (a0 a3 : Option Addr) (n0 c0 n3 c3 : Nat) (i1 i2 i4 : Int) (w : World) (P : World → Prop) (hP : ∀ W W', P W → (∀ k, k ≠ w.heap.size → W'.heap[k]? = W.heap[k]?) → W'.heap.size = W.heap.size → W'.os = W.os → W'.tape = W.tape → W'.output = W.output → P W')
    (hcl : Calls Try.prog 34 #[p0, p1, p2, p3, p4] (w.alloc (.cells #[.slice none 0 0, .int .i64 0, .int .i64 0, .slice none 0 0, .int .i64 0] 30)) fun e w' => e = .returned (.tuple #[]) ∧ P w' ∧ w'.heap[xb]? = some (.cells #[.slice a0 n0 c0, .int .i64 i1, .int .i64 i2, .slice a3 n3 c3, .int .i64 i4] 30) ∧ w'.heap[w.heap.size]? = some (.cells #[.slice none 0 0, .int .i64 0, .int .i64 0, .slice none 0 0, .int .i64 0] 30)) :
    Calls Try.prog 25 #[.pointer (some ⟨xb, 0, none⟩), .bool true, .func (.func 34) #[] #[p0, p1, p2, p3, p4]] w fun e w' => e = .returned (.tuple #[.agg #[.slice a0 n0 c0, .int .i64 i1, .int .i64 i2, .slice a3 n3 c3, .int .i64 i4], .bool true]) ∧ P w' := by
  have HC := Hid.intro hcl
  have HP := Hid.intro hP
  clear hcl hP
  go_enter Try.func25, Try.ntmps25
  go_upto_region 1 with fail
  generalize w.alloc (.cells #[.slice none 0 0, .int .i64 0, .int .i64 0, .slice none 0 0, .int .i64 0] 30) = W0 at HC ⊢
  go_wp2_with (go_at_call 34; refine HC.out.mono ?_; rintro e w1 ⟨rfl, hP1, hX1, hZ1⟩; have HP1 := Hid.intro hP1; have HX1 := Hid.intro hX1; have HZ1 := Hid.intro hZ1; obtain ⟨z0, z1, z2, z3, z4⟩ := fiveO hX1; obtain ⟨d0, d1, d2, d3, d4⟩ := fiveO hZ1; have fz : ∀ p, w1.frozen? ⟨w.heap.size, p, none⟩ = false := fun p => freeB hZ1; clear hP1 hX1 hZ1)
  exact bodyPost_ret (v := .tuple #[.agg #[.slice a0 n0 c0, .int .i64 i1, .int .i64 i2, .slice a3 n3 c3, .int .i64 i4], .bool true]) (by simp [results, Try.results25, go_sem, d0, d1, d2, d3, d4]) rfl ⟨rfl, HP.out _ _ HP1.out (fun k hk => by iterate 5 rw [Below.heap_setCell _ _ _ _ (by dsimp only; exact hk)]) (by iterate 5 rw [sizeSet]) rfl rfl rfl⟩
end Go.Proofs.Ytojogjlblgcioap
namespace Go.Proofs.Ytojogjlblgcioap
open Go.RowKit

theorem OwnD.put {w W9 : World} {B D : Nat} {vc vr : Value} {cols : List (Int × Int)} {ur : List (Value × R)} (h : OwnD w B D vc vr cols ur) (hb : Below w.heap.size w W9) {r a j : Nat} {p : Value × R} (hp : ur[r]? = some p) {g cap : Nat} (hpv : p.1 = .slice (some ⟨g, 0, none⟩) p.2.cells.length cap) (ha : a < p.2.cells.length) (hj : j < 11) {x : C} {v : Value} (hx : cellVs x = (cellVs p.2.cells[a]).set j v) :
    OwnD (W9.setCell ⟨g, a * 11 + j, none⟩ v) B D vc vr cols (ur.set r (p.1, ⟨p.2.cells.set a x, p.2.whole⟩)) := by
  have h9 := h.kept hb
  have hpm : p ∈ ur := List.mem_of_getElem? hp
  have hC := h9.2.1.cells p hpm
  rw [hpv] at hC
  have hC2 := OwnC.put hC ha hj hx
  have hG : W9.grownBy (W9.setCell ⟨g, a * 11 + j, none⟩ v) p.1.ownBlock := by rw [hpv]; exact grown_set (grown_refl _ _) rfl _
  have hR := h9.2.1.upd hp (r := ⟨p.2.cells.set a x, p.2.whole⟩) rfl (by rw [hpv]; simpa [OwnC] using hC2) hG
  refine ⟨?_, hR, h.2.2.1, h.2.2.2.1, fun q hq b e => ?_⟩
  · have hne := row_ne h9.1 (h9.2.1.cells p hpm) (by decide)
    exact row_off h9.1 (Off.grown (b1 := none) (n := 0) hG) (Nat.zero_le _) (by rcases hb : vc.ownBlock with _ | b; exact .inl rfl; exact .inr (by simp)) hne
  · rcases List.mem_or_eq_of_mem_set hq with hm | rfl
    · exact h.2.2.2.2 q hm b e
    · exact h.2.2.2.2 p hpm b e
/-- two writes into two places of one cell -/
theorem OwnD.put2 {w W9 : World} {B D : Nat} {vc vr : Value} {cols : List (Int × Int)} {ur : List (Value × R)} (h : OwnD w B D vc vr cols ur) (hb : Below w.heap.size w W9) {r a i j : Nat} {p : Value × R} (hp : ur[r]? = some p) {g cap : Nat} (hpv : p.1 = .slice (some ⟨g, 0, none⟩) p.2.cells.length cap) (ha : a < p.2.cells.length) (hi : i < 11) (hj : j < 11) {x y : C} {u v : Value} (hx : cellVs x = (cellVs p.2.cells[a]).set i u) (hy : cellVs y = (cellVs x).set j v) :
    OwnD ((W9.setCell ⟨g, a * 11 + i, none⟩ u).setCell ⟨g, a * 11 + j, none⟩ v) B D vc vr cols (ur.set r (p.1, ⟨p.2.cells.set a y, p.2.whole⟩)) := by
  have hrl : r < ur.length := (List.getElem?_eq_some_iff.1 hp).1
  have h1 := h.put hb hp hpv ha hi hx
  have h2 := h1.put (Below.refl _ _) (r := r) (a := a) (p := (p.1, ⟨p.2.cells.set a x, p.2.whole⟩)) (by rw [List.getElem?_set_self hrl]) (by rw [List.length_set]; exact hpv) (by rw [List.length_set]; exact ha) hj (x := y) (v := v) (by rw [hy]; simp)
  simpa using h2
/-- it stays where one block that is not its own is turned -/
theorem OwnD.other {W W' : World} {B D n : Nat} {vc vr : Value} {cols : List (Int × Int)} {ur : List (Value × R)} (h : OwnD W B D vc vr cols ur) (hn : D ≤ n) (hk : ∀ k, k ≠ n → W'.heap[k]? = W.heap[k]?) : OwnD W' B D vc vr cols ur := by
  obtain ⟨h1, h2, h3, h4, h5⟩ := h
  have key : ∀ {e : TypeId} {sz : Nat} {v : Value} {m : Nat} {xs : List Value}, W.ownsRow B e sz v m xs → (∀ b, v.ownBlock = some b → b < D) → W'.ownsRow B e sz v m xs := fun h hv => by
    refine ⟨h.1, h.2.elim Or.inl (fun ⟨g, cap, cur, e, hg, hc, q⟩ => Or.inr ⟨g, cap, cur, e, hg, ?_, q⟩)⟩
    have hgD : g < D := hv g (by rw [e]; rfl)
    exact (hk g (by omega)).trans hc
  exact ⟨key h1 h3, ⟨key h2.own h4, fun p hp => key (h2.cells p hp) (h5 p hp), h2.apart⟩, h3, h4, h5⟩
theorem below_other {w W W' : World} (h : Below w.heap.size w W) {n : Nat} (hn : w.heap.size ≤ n) (hk : ∀ k, k ≠ n → W'.heap[k]? = W.heap[k]?) (hs : W'.heap.size = W.heap.size) (ho : W'.os = W.os) (ht : W'.tape = W.tape) (hu : W'.output = W.output) : Below w.heap.size w W' :=
  ⟨ho.trans h.os, ht.trans h.tape, hu.trans h.output, by rw [hs]; exact h.size, fun k h1 => (hk k (by omega)).trans (h.block k h1)⟩
/-- a row's cells, as an owned table has them -/
theorem own_row {w : World} {B : Nat} {vr : Value} {ur : List (Value × R)} (h : OwnR w B vr ur) {r : Nat} {p : Value × R} (hp : ur[r]? = some p) {a : Nat} (ha : a < p.2.cells.length) : ∃ g cap cur, p.1 = .slice (some ⟨g, 0, none⟩) p.2.cells.length cap ∧ w.heap[g]? = some (.cells cur 51) ∧ p.2.cells.length ≤ cap ∧ cap ≤ maxLen ∧ cur.size = cap * 11 := by
  rcases (h.cells p (List.mem_of_getElem? hp)).2 with ⟨_, e⟩ | ⟨g, cap, cur, e, hg, hc, a1, a2, a3, _⟩
  · omega
  · exact ⟨g, cap, cur, e, hc, a1, a2, a3⟩
theorem map_set_snd (ur : List (Value × R)) (r : Nat) (q : Value × R) : (ur.set r q).map (·.2) = (ur.map (·.2)).set r q.2 := by simp
theorem own_lt {w : World} {B D : Nat} {vc vr : Value} {cols : List (Int × Int)} {ur : List (Value × R)} (h : OwnD w B D vc vr cols ur) {t : T} (hc : t.cols = cols) (hr : ur.map (·.2) = t.rows) : OwnT w B vc vr t := ⟨ur, hr, by rw [hc]; exact h.1, h.2.1⟩
end Go.Proofs.Ytojogjlblgcioap
namespace Go.Proofs.Ytojogjlblgcioap
open Go.RowKit

set_option maxRecDepth 100000 in
set_option maxHeartbeats 2000000 in
theorem implCellsIn (ac ar : Option Addr) (cc cr : Nat) (t : T) (row : Int) (hrow : -9223372036854775808 ≤ row ∧ row ≤ 9223372036854775807) (w : World) {z : Nat} (hr : RowsAt w z (.slice ar t.rows.length cr) t.rows) :
    Calls Try.prog 44 #[.agg #[.slice ac t.cols.length cc, .int .i64 t.head, .int .i64 t.foot, .slice ar t.rows.length cr, .int .i64 t.gap], .int .i64 row] w fun e w' => e = .returned (.int .i64 (cellsInV t row)) ∧ Below w.heap.size w w' := by
  obtain ⟨_, _, _, hlen⟩ := At.form hr
  unfold maxLen at hlen
  have K0 := k_alloc (Below.refl w.heap.size w) (.cells #[.slice ac t.cols.length cc, .int .i64 t.head, .int .i64 t.foot, .slice ar t.rows.length cr, .int .i64 t.gap] 30)
  have HK := Hid.intro K0
  have HR := Hid.intro (hr.kept K0)
  have HX := Hid.intro (newestB w (.cells #[.slice ac t.cols.length cc, .int .i64 t.head, .int .i64 t.foot, .slice ar t.rows.length cr, .int .i64 t.gap] 30))
  have HV : Hid (cellsInV t row = if inB row 0 ((t.rows.length : Int) - 1) = true then ((t.rows.getD row.toNat dR).cells.length : Int) else -1) := rfl
  clear hr K0
  have HI := Hid.intro (fun W => within_any row 0 ((t.rows.length : Int) - 1) W)
  by_cases hin : inB row 0 ((t.rows.length : Int) - 1) = true
  · have hv := HV.out
    rw [if_pos hin] at hv
    rw [hin] at HI
    obtain ⟨r, rfl⟩ : ∃ r : Nat, row = r := ⟨row.toNat, by simp only [inB, decide_eq_true_eq] at hin; omega⟩
    have hrl : r < t.rows.length := by simp only [inB, decide_eq_true_eq] at hin; omega
    rw [Int.toNat_natCast] at hv
    obtain ⟨b, off, cap', e', hc1, hc2, hbl, u, hx0, hx1, hx⟩ := At.get HR.out hrl
    simp only [Value.slice.injEq, true_and] at e'
    obtain ⟨rfl, rfl⟩ := e'
    obtain ⟨au, cu, rfl, hul⟩ := At.form hx
    have Hv := Hid.intro hv
    generalize (t.rows.getD r dR).cells.length = m at hx0 Hv hul
    unfold maxLen at hc2 hul
    clear hv HV hin hx hx1
    go_enter Try.func44, Try.ntmps44
    go_upto_region 1 with fail
    generalize w.alloc (.cells #[.slice ac t.cols.length cc, .int .i64 t.head, .int .i64 t.foot, .slice (some ⟨b, off, none⟩) t.rows.length cr, .int .i64 t.gap] 30) = W0 at HK HR HX hx0 hbl ⊢
    have z3 := cellB (p := 3) HX.out
    go_wp2_with fail
    refine (HI.out _).mono ?_
    rintro e w1 ⟨rfl, e1⟩
    subst e1
    go_wp2
    go_ret
    exact ⟨by rw [Hv.out]; rfl, HK.out⟩
  · have hv := HV.out
    rw [if_neg hin] at hv
    rw [Bool.eq_false_iff.2 hin] at HI
    have Hv := Hid.intro hv
    clear hv HV hin
    go_enter Try.func44, Try.ntmps44
    go_upto_region 1 with fail
    generalize w.alloc (.cells #[.slice ac t.cols.length cc, .int .i64 t.head, .int .i64 t.foot, .slice ar t.rows.length cr, .int .i64 t.gap] 30) = W0 at HK HR HX ⊢
    have z3 := cellB (p := 3) HX.out
    go_wp2_with fail
    refine (HI.out _).mono ?_
    rintro e w1 ⟨rfl, e1⟩
    subst e1
    go_wp2
    go_ret
    exact ⟨by rw [Hv.out]; rfl, HK.out⟩

theorem cellsIn_bound (t : T) (row : Int) (h : ∀ r ∈ t.rows, r.cells.length ≤ 1048576) : -1 ≤ cellsInV t row ∧ cellsInV t row ≤ 1048576 := by
  unfold cellsInV
  split
  · rename_i hin
    have hl : row.toNat < t.rows.length := by simp only [inB, decide_eq_true_eq] at hin; omega
    have := h _ (List.getElem_mem hl)
    rw [getD_get dR hl]
    omega
  · omega
set_option maxRecDepth 100000 in
set_option maxHeartbeats 2000000 in
theorem implHasCell (ac ar : Option Addr) (cc cr : Nat) (t : T) (row at' : Int) (hrow : -9223372036854775808 ≤ row ∧ row ≤ 9223372036854775807) (hcs : ∀ r ∈ t.rows, r.cells.length ≤ 1048576) (w : World) {z : Nat} (hr : RowsAt w z (.slice ar t.rows.length cr) t.rows) :
    Calls Try.prog 23 #[.agg #[.slice ac t.cols.length cc, .int .i64 t.head, .int .i64 t.foot, .slice ar t.rows.length cr, .int .i64 t.gap], .int .i64 row, .int .i64 at'] w fun e w' => e = .returned (.bool (hasB t row at')) ∧ Below w.heap.size w w' := by
  have K0 := k_alloc (Below.refl w.heap.size w) (.cells #[.slice ac t.cols.length cc, .int .i64 t.head, .int .i64 t.foot, .slice ar t.rows.length cr, .int .i64 t.gap] 30)
  have HK := Hid.intro K0
  have HX := Hid.intro (newestB w (.cells #[.slice ac t.cols.length cc, .int .i64 t.head, .int .i64 t.foot, .slice ar t.rows.length cr, .int .i64 t.gap] 30))
  have KC := Hid.intro (implCellsIn ac ar cc cr t row hrow _ (hr.kept K0))
  have hcb := cellsIn_bound t row hcs
  have HI := Hid.intro (fun W => within_any at' 0 (cellsInV t row - 1) W)
  have HV : Hid (hasB t row at' = inB at' 0 (cellsInV t row - 1)) := rfl
  clear hr K0 hcs
  go_enter Try.func23, Try.ntmps23
  go_upto_region 1 with fail
  generalize w.alloc (.cells #[.slice ac t.cols.length cc, .int .i64 t.head, .int .i64 t.foot, .slice ar t.rows.length cr, .int .i64 t.gap] 30) = W0 at HK HX KC ⊢
  obtain ⟨z0, z1, z2, z3, z4⟩ := fiveO HX.out
  generalize cellsInV t row = cv at KC hcb HI HV
  go_wp2_with fail
  refine KC.out.mono ?_
  rintro e w1 ⟨rfl, hb1⟩
  have HB1 := Hid.intro (k_trans HK.out hb1)
  clear hb1 z0 z1 z2 z3 z4
  go_wp2_with fail
  refine (HI.out _).mono ?_
  rintro e w2 ⟨rfl, e2⟩
  subst e2
  go_wp2
  go_ret
  exact ⟨by rw [HV.out]; rfl, HB1.out⟩
end Go.Proofs.Ytojogjlblgcioap
