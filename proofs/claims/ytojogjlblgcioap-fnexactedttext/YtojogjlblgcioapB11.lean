/-
  PROVED HERE: what the closure of the program's EdtText does: it writes the text of one cell of the copy, and turns nothing else that was in memory. Also: what the program's behind answers with the closure of EdtText: what the copy is behind the closure, or the copy as it was; nothing else is turned. Also: a table that is owned, behind a write into one place of one of its cells. Also: what the program's cellsIn and hasCell answer: how many cells a row has, and whether there is a cell at a place; nothing that was in memory is turned.
-/
import Derived.Test.YtojogjlblgcioapB10
import Derived.Deep.Cut
namespace Go.Proofs.Ytojogjlblgcioap
open Go.RowKit

structure EtJ (xb g h r a n c2 m cu : Nat) (s : ByteArray) (W3 : World) (L : Nat → Bool) (W : World) (v4 v5 v6 v7 v8 v9 v10 v11 v12 v13 : Value) : Prop where
  f0 : L 0 = true → v4 = .pointer (some ⟨xb, 3, none⟩)
  f1 : L 1 = true → v5 = .slice (some ⟨g, 0, none⟩) n c2
  f2 : L 2 = true → v6 = .int .i64 r
  f3 : L 3 = true → v7 = .pointer (some ⟨g, r * 2, none⟩)
  f4 : L 4 = true → v8 = .pointer (some ⟨g, r * 2, none⟩)
  f5 : L 5 = true → v9 = .slice (some ⟨h, 0, none⟩) m cu
  f6 : L 6 = true → v10 = .int .i64 a
  f7 : L 7 = true → v11 = .string s
  f8 : L 8 = true → v12 = .pointer (some ⟨h, a * 11, none⟩)
  f9 : L 9 = true → v13 = .pointer (some ⟨h, a * 11, none⟩)
  b : L 10 = false → Below W3.heap.size W3 W
  fin : L 10 = true → ∃ W9, Below W3.heap.size W3 W9 ∧ W = W9.setCell ⟨h, a * 11, none⟩ (.string s)
set_option maxRecDepth 100000 in
set_option maxHeartbeats 2000000 in
theorem closText (sb xb rb ab g h r a n c2 m cu : Nat) (a1 : Option Addr) (cl c1 : Nat) (hd ft gp : Value) (s : ByteArray) (arr cur : Array Value) (w : World)
    (hx : w.heap[xb]? = some (.cells #[.slice a1 cl c1, hd, ft, .slice (some ⟨g, 0, none⟩) n c2, gp] 30)) (hsb : w.heap[sb]? = some (.cells #[.string s] 9)) (hrb : w.heap[rb]? = some (.cells #[.int .i64 (r : Int)] 3)) (hab : w.heap[ab]? = some (.cells #[.int .i64 (a : Int)] 3))
    (hg : w.heap[g]? = some (.cells arr 46)) (hr : r < n) (hq : arr[r * 2]? = some (.slice (some ⟨h, 0, none⟩) m cu)) (hh : w.heap[h]? = some (.cells cur 51)) (ha : a < m) (hm : m ≤ cu) (hsz : cur.size = cu * 11) :
    Calls Try.prog 26 #[.pointer (some ⟨sb, 0, none⟩), .pointer (some ⟨xb, 0, none⟩), .pointer (some ⟨rb, 0, none⟩), .pointer (some ⟨ab, 0, none⟩)] w fun e w' => e = .returned (.tuple #[]) ∧ ∃ W9, Below w.heap.size w W9 ∧ w' = W9.setCell ⟨h, a * 11, none⟩ (.string s) := by
  have hmx : Try.prog.follows .mixedOrders = true := by kernel_rfl
  have HX := Hid.intro hx
  have HSb := Hid.intro hsb
  have HRb := Hid.intro hrb
  have HAb := Hid.intro hab
  have HQ := Hid.intro ((cellB hg).trans hq)
  have HH := Hid.intro hh
  have hlg := (Array.getElem?_eq_some_iff.1 hg).1
  have hlh := (Array.getElem?_eq_some_iff.1 hh).1
  have has : a * 11 < cur.size := by omega
  clear hx hsb hrb hab hg hq hh
  go_enter Try.func26, Try.ntmps26
  go_upto_region 0 with fail
  refine wp_region_inv2 (fun L act W => ∃ v4 v5 v6 v7 v8 v9 v10 v11 v12 v13 : Value, act = ⟨#[.pointer (some ⟨sb, 0, none⟩), .pointer (some ⟨xb, 0, none⟩), .pointer (some ⟨rb, 0, none⟩), .pointer (some ⟨ab, 0, none⟩), v4, v5, v6, v7, v8, v9, v10, v11, v12, v13], []⟩ ∧ EtJ xb g h r a n c2 m cu s w L W v4 v5 v6 v7 v8 v9 v10 v11 v12 v13) hmx (by kernel_rfl) ?hs ?hd ?h0
  case h0 => exact ⟨_, _, _, _, _, _, _, _, _, _, rfl, ⟨(fun h => by cases h), (fun h => by cases h), (fun h => by cases h), (fun h => by cases h), (fun h => by cases h), (fun h => by cases h), (fun h => by cases h), (fun h => by cases h), (fun h => by cases h), (fun h => by cases h), (fun _ => k_drew (Below.refl _ _)), (fun h => by cases h)⟩⟩
  case hd =>
    intro L act W hJ hall
    obtain ⟨v4, v5, v6, v7, v8, v9, v10, v11, v12, v13, ha, J⟩ := hJ
    subst ha
    obtain ⟨W9, hB9, rfl⟩ := J.fin (hall 10 (by decide))
    clear J hall
    go_wp2
    go_end0
    exact ⟨rfl, W9, hB9, rfl⟩
  case hs =>
    intro L act W i o hJ hcl ho hLi haft K hK
    obtain ⟨v4, v5, v6, v7, v8, v9, v10, v11, v12, v13, ha, J⟩ := hJ
    subst ha
    have hi' : i < 11 := by
      have := (Array.getElem?_eq_some_iff.1 ho).1
      simpa using this
    rcases (by omega : i = 0 ∨ i = 1 ∨ i = 2 ∨ i = 3 ∨ i = 4 ∨ i = 5 ∨ i = 6 ∨ i = 7 ∨ i = 8 ∨ i = 9 ∨ i = 10) with rfl | rfl | rfl | rfl | rfl | rfl | rfl | rfl | rfl | rfl | rfl
    all_goals
      simp only [List.getElem?_toArray, List.getElem?_cons_zero, List.getElem?_cons_succ, Option.some.injEq] at ho
      subst ho
      clear hi'
    · skip
      have hN := (hcl 10 9 (by kernel_rfl) (hcl 9 8 (by kernel_rfl) (hcl 8 5 (by kernel_rfl) (hcl 5 4 (by kernel_rfl) (hcl 4 3 (by kernel_rfl) (hcl 3 1 (by kernel_rfl) (hcl 1 0 (by kernel_rfl) hLi)))))))
      have hB := J.b hN
      go_simp
      exact hK _ _ ⟨_, _, _, _, _, _, _, _, _, _, rfl, ⟨(fun _ => rfl), (fun h => J.f1 (un h)), (fun h => J.f2 (un h)), (fun h => J.f3 (un h)), (fun h => J.f4 (un h)), (fun h => J.f5 (un h)), (fun h => J.f6 (un h)), (fun h => J.f7 (un h)), (fun h => J.f8 (un h)), (fun h => J.f9 (un h)), (fun _ => hB), (fun h => absurd (hN.symm.trans (un h)) (by simp))⟩⟩
    · skip
      have hN := (hcl 10 9 (by kernel_rfl) (hcl 9 8 (by kernel_rfl) (hcl 8 5 (by kernel_rfl) (hcl 5 4 (by kernel_rfl) (hcl 4 3 (by kernel_rfl) (hcl 3 1 (by kernel_rfl) hLi))))))
      have hB := J.b hN
      obtain rfl := J.f0 (haft ⟨0, .data⟩ (by simp) rfl)
      obtain ⟨q0, q1, q2, q3, q4⟩ := fiveO ((hB.block _ (Array.getElem?_eq_some_iff.1 HX.out).1).trans HX.out)
      have hl := Nat.lt_of_lt_of_le (Array.getElem?_eq_some_iff.1 HX.out).1 hB.size
      go_simp
      exact hK _ _ ⟨_, _, _, _, _, _, _, _, _, _, rfl, ⟨(fun h => J.f0 (un h)), (fun _ => rfl), (fun h => J.f2 (un h)), (fun h => J.f3 (un h)), (fun h => J.f4 (un h)), (fun h => J.f5 (un h)), (fun h => J.f6 (un h)), (fun h => J.f7 (un h)), (fun h => J.f8 (un h)), (fun h => J.f9 (un h)), (fun _ => hB), (fun h => absurd (hN.symm.trans (un h)) (by simp))⟩⟩
    · skip
      have hN := (hcl 10 9 (by kernel_rfl) (hcl 9 8 (by kernel_rfl) (hcl 8 5 (by kernel_rfl) (hcl 5 4 (by kernel_rfl) (hcl 4 3 (by kernel_rfl) (hcl 3 2 (by kernel_rfl) hLi))))))
      have hB := J.b hN
      have q0 := cellB (p := 0) ((hB.block _ (Array.getElem?_eq_some_iff.1 HRb.out).1).trans HRb.out)
      go_simp
      exact hK _ _ ⟨_, _, _, _, _, _, _, _, _, _, rfl, ⟨(fun h => J.f0 (un h)), (fun h => J.f1 (un h)), (fun _ => rfl), (fun h => J.f3 (un h)), (fun h => J.f4 (un h)), (fun h => J.f5 (un h)), (fun h => J.f6 (un h)), (fun h => J.f7 (un h)), (fun h => J.f8 (un h)), (fun h => J.f9 (un h)), (fun _ => hB), (fun h => absurd (hN.symm.trans (un h)) (by simp))⟩⟩
    · skip
      have hN := (hcl 10 9 (by kernel_rfl) (hcl 9 8 (by kernel_rfl) (hcl 8 5 (by kernel_rfl) (hcl 5 4 (by kernel_rfl) (hcl 4 3 (by kernel_rfl) hLi)))))
      have hB := J.b hN
      obtain rfl := J.f1 (haft ⟨1, .data⟩ (by simp) rfl)
      obtain rfl := J.f2 (haft ⟨2, .data⟩ (by simp) rfl)
      go_simp
      exact hK _ _ ⟨_, _, _, _, _, _, _, _, _, _, rfl, ⟨(fun h => J.f0 (un h)), (fun h => J.f1 (un h)), (fun h => J.f2 (un h)), (fun _ => rfl), (fun h => J.f4 (un h)), (fun h => J.f5 (un h)), (fun h => J.f6 (un h)), (fun h => J.f7 (un h)), (fun h => J.f8 (un h)), (fun h => J.f9 (un h)), (fun _ => hB), (fun h => absurd (hN.symm.trans (un h)) (by simp))⟩⟩
    · skip
      have hN := (hcl 10 9 (by kernel_rfl) (hcl 9 8 (by kernel_rfl) (hcl 8 5 (by kernel_rfl) (hcl 5 4 (by kernel_rfl) hLi))))
      have hB := J.b hN
      obtain rfl := J.f3 (haft ⟨3, .data⟩ (by simp) rfl)
      go_simp
      exact hK _ _ ⟨_, _, _, _, _, _, _, _, _, _, rfl, ⟨(fun h => J.f0 (un h)), (fun h => J.f1 (un h)), (fun h => J.f2 (un h)), (fun h => J.f3 (un h)), (fun _ => rfl), (fun h => J.f5 (un h)), (fun h => J.f6 (un h)), (fun h => J.f7 (un h)), (fun h => J.f8 (un h)), (fun h => J.f9 (un h)), (fun _ => hB), (fun h => absurd (hN.symm.trans (un h)) (by simp))⟩⟩
    · skip
      have hN := (hcl 10 9 (by kernel_rfl) (hcl 9 8 (by kernel_rfl) (hcl 8 5 (by kernel_rfl) hLi)))
      have hB := J.b hN
      obtain rfl := J.f4 (haft ⟨4, .data⟩ (by simp) rfl)
      have hq := (hB.cell (p := ⟨g, r * 2, none⟩) hlg).trans HQ.out
      go_simp
      exact hK _ _ ⟨_, _, _, _, _, _, _, _, _, _, rfl, ⟨(fun h => J.f0 (un h)), (fun h => J.f1 (un h)), (fun h => J.f2 (un h)), (fun h => J.f3 (un h)), (fun h => J.f4 (un h)), (fun _ => rfl), (fun h => J.f6 (un h)), (fun h => J.f7 (un h)), (fun h => J.f8 (un h)), (fun h => J.f9 (un h)), (fun _ => hB), (fun h => absurd (hN.symm.trans (un h)) (by simp))⟩⟩
    · skip
      have hN := (hcl 10 9 (by kernel_rfl) (hcl 9 8 (by kernel_rfl) (hcl 8 6 (by kernel_rfl) hLi)))
      have hB := J.b hN
      have q0 := cellB (p := 0) ((hB.block _ (Array.getElem?_eq_some_iff.1 HAb.out).1).trans HAb.out)
      go_simp
      exact hK _ _ ⟨_, _, _, _, _, _, _, _, _, _, rfl, ⟨(fun h => J.f0 (un h)), (fun h => J.f1 (un h)), (fun h => J.f2 (un h)), (fun h => J.f3 (un h)), (fun h => J.f4 (un h)), (fun h => J.f5 (un h)), (fun _ => rfl), (fun h => J.f7 (un h)), (fun h => J.f8 (un h)), (fun h => J.f9 (un h)), (fun _ => hB), (fun h => absurd (hN.symm.trans (un h)) (by simp))⟩⟩
    · skip
      have hN := (hcl 10 7 (by kernel_rfl) hLi)
      have hB := J.b hN
      have q0 := cellB (p := 0) ((hB.block _ (Array.getElem?_eq_some_iff.1 HSb.out).1).trans HSb.out)
      go_simp
      exact hK _ _ ⟨_, _, _, _, _, _, _, _, _, _, rfl, ⟨(fun h => J.f0 (un h)), (fun h => J.f1 (un h)), (fun h => J.f2 (un h)), (fun h => J.f3 (un h)), (fun h => J.f4 (un h)), (fun h => J.f5 (un h)), (fun h => J.f6 (un h)), (fun _ => rfl), (fun h => J.f8 (un h)), (fun h => J.f9 (un h)), (fun _ => hB), (fun h => absurd (hN.symm.trans (un h)) (by simp))⟩⟩
    · skip
      have hN := (hcl 10 9 (by kernel_rfl) (hcl 9 8 (by kernel_rfl) hLi))
      have hB := J.b hN
      obtain rfl := J.f5 (haft ⟨5, .data⟩ (by simp) rfl)
      obtain rfl := J.f6 (haft ⟨6, .data⟩ (by simp) rfl)
      go_simp
      exact hK _ _ ⟨_, _, _, _, _, _, _, _, _, _, rfl, ⟨(fun h => J.f0 (un h)), (fun h => J.f1 (un h)), (fun h => J.f2 (un h)), (fun h => J.f3 (un h)), (fun h => J.f4 (un h)), (fun h => J.f5 (un h)), (fun h => J.f6 (un h)), (fun h => J.f7 (un h)), (fun _ => rfl), (fun h => J.f9 (un h)), (fun _ => hB), (fun h => absurd (hN.symm.trans (un h)) (by simp))⟩⟩
    · skip
      have hN := (hcl 10 9 (by kernel_rfl) hLi)
      have hB := J.b hN
      obtain rfl := J.f8 (haft ⟨8, .data⟩ (by simp) rfl)
      go_simp
      exact hK _ _ ⟨_, _, _, _, _, _, _, _, _, _, rfl, ⟨(fun h => J.f0 (un h)), (fun h => J.f1 (un h)), (fun h => J.f2 (un h)), (fun h => J.f3 (un h)), (fun h => J.f4 (un h)), (fun h => J.f5 (un h)), (fun h => J.f6 (un h)), (fun h => J.f7 (un h)), (fun h => J.f8 (un h)), (fun _ => rfl), (fun _ => hB), (fun h => absurd (hN.symm.trans (un h)) (by simp))⟩⟩
    · skip
      have hN := hLi
      have hB := J.b hN
      obtain rfl := J.f9 (haft ⟨9, .data⟩ (by simp) rfl)
      obtain rfl := J.f7 (haft ⟨7, .data⟩ (by simp) rfl)
      have hBk := (hB.block h hlh).trans HH.out
      obtain ⟨y0, hy0⟩ := someB (p := a * 11) hBk has
      have fz := freeB (p := a * 11) hBk
      go_simp
      exact hK _ _ ⟨_, _, _, _, _, _, _, _, _, _, rfl, ⟨(fun h => J.f0 (un h)), (fun h => J.f1 (un h)), (fun h => J.f2 (un h)), (fun h => J.f3 (un h)), (fun h => J.f4 (un h)), (fun h => J.f5 (un h)), (fun h => J.f6 (un h)), (fun h => J.f7 (un h)), (fun h => J.f8 (un h)), (fun h => J.f9 (un h)), (fun h => absurd (h.symm.trans upd_self) (by simp)), (fun _ => ⟨W, hB, rfl⟩)⟩⟩
end Go.Proofs.Ytojogjlblgcioap
namespace Go.Proofs.Ytojogjlblgcioap
open Go.RowKit

set_option maxRecDepth 100000 in
set_option maxHeartbeats 2000000 in
theorem behindText_no (xb : Nat) (p0 p1 p2 p3 : Value) (a0 a3 : Option Addr) (n0 c0 n3 c3 : Nat) (i1 i2 i4 : Int) (w : World) (hx : w.heap[xb]? = some (.cells #[.slice a0 n0 c0, .int .i64 i1, .int .i64 i2, .slice a3 n3 c3, .int .i64 i4] 30)) :
    Calls Try.prog 25 #[.pointer (some ⟨xb, 0, none⟩), .bool false, .func (.func 26) #[] #[p0, p1, p2, p3]] w fun e w' => e = .returned (.tuple #[.agg #[.slice a0 n0 c0, .int .i64 i1, .int .i64 i2, .slice a3 n3 c3, .int .i64 i4], .bool false]) ∧ Below w.heap.size w w' := by
  have hX := (Below.heap_alloc w (.cells #[.slice none 0 0, .int .i64 0, .int .i64 0, .slice none 0 0, .int .i64 0] 30) xb (Array.getElem?_eq_some_iff.1 hx).1).trans hx
  have hZ := newestB w (.cells #[.slice none 0 0, .int .i64 0, .int .i64 0, .slice none 0 0, .int .i64 0] 30)
  have HK := Hid.intro (k_alloc (Below.refl w.heap.size w) (.cells #[.slice none 0 0, .int .i64 0, .int .i64 0, .slice none 0 0, .int .i64 0] 30))
  have HX := Hid.intro hX
  have HZ := Hid.intro hZ
  clear hx hX hZ
  go_enter Try.func25, Try.ntmps25
  go_upto_region 1 with fail
  generalize w.alloc (.cells #[.slice none 0 0, .int .i64 0, .int .i64 0, .slice none 0 0, .int .i64 0] 30) = W0 at HK HX HZ ⊢
  obtain ⟨z0, z1, z2, z3, z4⟩ := fiveO HX.out
  obtain ⟨d0, d1, d2, d3, d4⟩ := fiveO HZ.out
  have fz : ∀ p, W0.frozen? ⟨w.heap.size, p, none⟩ = false := fun p => freeB HZ.out
  go_wp2
  exact bodyPost_ret (v := .tuple #[.agg #[.slice a0 n0 c0, .int .i64 i1, .int .i64 i2, .slice a3 n3 c3, .int .i64 i4], .bool false]) (by simp [results, Try.results25, go_sem, d0, d1, d2, d3, d4]) rfl ⟨rfl, k_set (k_set (k_set (k_set (k_set HK.out (Nat.le_refl _) _) (Nat.le_refl _) _) (Nat.le_refl _) _) (Nat.le_refl _) _) (Nat.le_refl _) _⟩
set_option maxRecDepth 100000 in
set_option maxHeartbeats 2000000 in
theorem behindText_yes (xb : Nat) (p0 p1 p2 p3 : Value) (a0 a3 : Option Addr) (n0 c0 n3 c3 : Nat) (i1 i2 i4 : Int) (w : World) (P : World → Prop) (hP : ∀ W W', P W → (∀ k, k ≠ w.heap.size → W'.heap[k]? = W.heap[k]?) → W'.heap.size = W.heap.size → W'.os = W.os → W'.tape = W.tape → W'.output = W.output → P W')
    (hcl : Calls Try.prog 26 #[p0, p1, p2, p3] (w.alloc (.cells #[.slice none 0 0, .int .i64 0, .int .i64 0, .slice none 0 0, .int .i64 0] 30)) fun e w' => e = .returned (.tuple #[]) ∧ P w' ∧ w'.heap[xb]? = some (.cells #[.slice a0 n0 c0, .int .i64 i1, .int .i64 i2, .slice a3 n3 c3, .int .i64 i4] 30) ∧ w'.heap[w.heap.size]? = some (.cells #[.slice none 0 0, .int .i64 0, .int .i64 0, .slice none 0 0, .int .i64 0] 30)) :
    Calls Try.prog 25 #[.pointer (some ⟨xb, 0, none⟩), .bool true, .func (.func 26) #[] #[p0, p1, p2, p3]] w fun e w' => e = .returned (.tuple #[.agg #[.slice a0 n0 c0, .int .i64 i1, .int .i64 i2, .slice a3 n3 c3, .int .i64 i4], .bool true]) ∧ P w' := by
  have HC := Hid.intro hcl
  have HP := Hid.intro hP
  clear hcl hP
  go_enter Try.func25, Try.ntmps25
  go_upto_region 1 with fail
  generalize w.alloc (.cells #[.slice none 0 0, .int .i64 0, .int .i64 0, .slice none 0 0, .int .i64 0] 30) = W0 at HC ⊢
  go_wp2_with (go_at_call 26; refine HC.out.mono ?_; rintro e w1 ⟨rfl, hP1, hX1, hZ1⟩; have HP1 := Hid.intro hP1; have HX1 := Hid.intro hX1; have HZ1 := Hid.intro hZ1; obtain ⟨z0, z1, z2, z3, z4⟩ := fiveO hX1; obtain ⟨d0, d1, d2, d3, d4⟩ := fiveO hZ1; have fz : ∀ p, w1.frozen? ⟨w.heap.size, p, none⟩ = false := fun p => freeB hZ1; clear hP1 hX1 hZ1)
  exact bodyPost_ret (v := .tuple #[.agg #[.slice a0 n0 c0, .int .i64 i1, .int .i64 i2, .slice a3 n3 c3, .int .i64 i4], .bool true]) (by simp [results, Try.results25, go_sem, d0, d1, d2, d3, d4]) rfl ⟨rfl, HP.out _ _ HP1.out (fun k hk => by iterate 5 rw [Below.heap_setCell _ _ _ _ (by dsimp only; exact hk)]) (by iterate 5 rw [sizeSet]) rfl rfl rfl⟩
end Go.Proofs.Ytojogjlblgcioap
namespace Go.Proofs.Ytojogjlblgcioap
open Go.RowKit

theorem OwnD.put {w W9 : World} {B D : Nat} {vc vr : Value} {cols : List (Int × Int)} {ur : List (Value × R)} (h : OwnD w B D vc vr cols ur) (hb : Below w.heap.size w W9) {r a j : Nat} {p : Value × R} (hp : ur[r]? = some p) {g cap : Nat} (hpv : p.1 = .slice (some ⟨g, 0, none⟩) p.2.cells.length cap) (ha : a < p.2.cells.length) (hj : j < 11) {x : C} {v : Value} (hx : cellVs x = (cellVs p.2.cells[a]).set j v) :
    OwnD (W9.setCell ⟨g, a * 11 + j, none⟩ v) B D vc vr cols (ur.set r (p.1, ⟨p.2.cells.set a x, p.2.whole⟩)) := by
  have h9 := h.kept hb
  have hpm : p ∈ ur := List.mem_of_getElem? hp
  have hC := h9.2.1.cells p hpm
  rw [hpv] at hC
  have hC2 := OwnC.put hC ha hj hx
  have hG : W9.grownBy (W9.setCell ⟨g, a * 11 + j, none⟩ v) p.1.ownBlock := by rw [hpv]; exact grown_set (grown_refl _ _) rfl _
  have hR := h9.2.1.upd hp (r := ⟨p.2.cells.set a x, p.2.whole⟩) rfl (by rw [hpv]; simpa [OwnC] using hC2) hG
  refine ⟨?_, hR, h.2.2.1, h.2.2.2.1, fun q hq b e => ?_⟩
  · have hne := row_ne h9.1 (h9.2.1.cells p hpm) (by decide)
    exact row_off h9.1 (Off.grown (b1 := none) (n := 0) hG) (Nat.zero_le _) (by rcases hb : vc.ownBlock with _ | b; exact .inl rfl; exact .inr (by simp)) hne
  · rcases List.mem_or_eq_of_mem_set hq with hm | rfl
    · exact h.2.2.2.2 q hm b e
    · exact h.2.2.2.2 p hpm b e
/-- it stays where one block that is not its own is turned -/
theorem OwnD.other {W W' : World} {B D n : Nat} {vc vr : Value} {cols : List (Int × Int)} {ur : List (Value × R)} (h : OwnD W B D vc vr cols ur) (hn : D ≤ n) (hk : ∀ k, k ≠ n → W'.heap[k]? = W.heap[k]?) : OwnD W' B D vc vr cols ur := by
  obtain ⟨h1, h2, h3, h4, h5⟩ := h
  have key : ∀ {e : TypeId} {sz : Nat} {v : Value} {m : Nat} {xs : List Value}, W.ownsRow B e sz v m xs → (∀ b, v.ownBlock = some b → b < D) → W'.ownsRow B e sz v m xs := fun h hv => by
    refine ⟨h.1, h.2.elim Or.inl (fun ⟨g, cap, cur, e, hg, hc, q⟩ => Or.inr ⟨g, cap, cur, e, hg, ?_, q⟩)⟩
    have hgD : g < D := hv g (by rw [e]; rfl)
    exact (hk g (by omega)).trans hc
  exact ⟨key h1 h3, ⟨key h2.own h4, fun p hp => key (h2.cells p hp) (h5 p hp), h2.apart⟩, h3, h4, h5⟩
theorem below_other {w W W' : World} (h : Below w.heap.size w W) {n : Nat} (hn : w.heap.size ≤ n) (hk : ∀ k, k ≠ n → W'.heap[k]? = W.heap[k]?) (hs : W'.heap.size = W.heap.size) (ho : W'.os = W.os) (ht : W'.tape = W.tape) (hu : W'.output = W.output) : Below w.heap.size w W' :=
  ⟨ho.trans h.os, ht.trans h.tape, hu.trans h.output, by rw [hs]; exact h.size, fun k h1 => (hk k (by omega)).trans (h.block k h1)⟩
/-- a row's cells, as an owned table has them -/
theorem own_row {w : World} {B : Nat} {vr : Value} {ur : List (Value × R)} (h : OwnR w B vr ur) {r : Nat} {p : Value × R} (hp : ur[r]? = some p) {a : Nat} (ha : a < p.2.cells.length) : ∃ g cap cur, p.1 = .slice (some ⟨g, 0, none⟩) p.2.cells.length cap ∧ w.heap[g]? = some (.cells cur 51) ∧ p.2.cells.length ≤ cap ∧ cap ≤ maxLen ∧ cur.size = cap * 11 := by
  rcases (h.cells p (List.mem_of_getElem? hp)).2 with ⟨_, e⟩ | ⟨g, cap, cur, e, hg, hc, a1, a2, a3, _⟩
  · omega
  · exact ⟨g, cap, cur, e, hc, a1, a2, a3⟩
theorem map_set_snd (ur : List (Value × R)) (r : Nat) (q : Value × R) : (ur.set r q).map (·.2) = (ur.map (·.2)).set r q.2 := by simp
theorem own_lt {w : World} {B D : Nat} {vc vr : Value} {cols : List (Int × Int)} {ur : List (Value × R)} (h : OwnD w B D vc vr cols ur) {t : T} (hc : t.cols = cols) (hr : ur.map (·.2) = t.rows) : OwnT w B vc vr t := ⟨ur, hr, by rw [hc]; exact h.1, h.2.1⟩
end Go.Proofs.Ytojogjlblgcioap
namespace Go.Proofs.Ytojogjlblgcioap
open Go.RowKit

set_option maxRecDepth 100000 in
set_option maxHeartbeats 2000000 in
theorem implCellsIn (ac ar : Option Addr) (cc cr : Nat) (t : T) (row : Int) (hrow : -9223372036854775808 ≤ row ∧ row ≤ 9223372036854775807) (w : World) {z : Nat} (hr : RowsAt w z (.slice ar t.rows.length cr) t.rows) :
    Calls Try.prog 44 #[.agg #[.slice ac t.cols.length cc, .int .i64 t.head, .int .i64 t.foot, .slice ar t.rows.length cr, .int .i64 t.gap], .int .i64 row] w fun e w' => e = .returned (.int .i64 (cellsInV t row)) ∧ Below w.heap.size w w' := by
  obtain ⟨_, _, _, hlen⟩ := At.form hr
  unfold maxLen at hlen
  have K0 := k_alloc (Below.refl w.heap.size w) (.cells #[.slice ac t.cols.length cc, .int .i64 t.head, .int .i64 t.foot, .slice ar t.rows.length cr, .int .i64 t.gap] 30)
  have HK := Hid.intro K0
  have HR := Hid.intro (hr.kept K0)
  have HX := Hid.intro (newestB w (.cells #[.slice ac t.cols.length cc, .int .i64 t.head, .int .i64 t.foot, .slice ar t.rows.length cr, .int .i64 t.gap] 30))
  have HV : Hid (cellsInV t row = if inB row 0 ((t.rows.length : Int) - 1) = true then ((t.rows.getD row.toNat dR).cells.length : Int) else -1) := rfl
  clear hr K0
  have HI := Hid.intro (fun W => within_any row 0 ((t.rows.length : Int) - 1) W)
  by_cases hin : inB row 0 ((t.rows.length : Int) - 1) = true
  · have hv := HV.out
    rw [if_pos hin] at hv
    rw [hin] at HI
    obtain ⟨r, rfl⟩ : ∃ r : Nat, row = r := ⟨row.toNat, by simp only [inB, decide_eq_true_eq] at hin; omega⟩
    have hrl : r < t.rows.length := by simp only [inB, decide_eq_true_eq] at hin; omega
    rw [Int.toNat_natCast] at hv
    obtain ⟨b, off, cap', e', hc1, hc2, hbl, u, hx0, hx1, hx⟩ := At.get HR.out hrl
    simp only [Value.slice.injEq, true_and] at e'
    obtain ⟨rfl, rfl⟩ := e'
    obtain ⟨au, cu, rfl, hul⟩ := At.form hx
    have Hv := Hid.intro hv
    generalize (t.rows.getD r dR).cells.length = m at hx0 Hv hul
    unfold maxLen at hc2 hul
    clear hv HV hin hx hx1
    go_enter Try.func44, Try.ntmps44
    go_upto_region 1 with fail
    generalize w.alloc (.cells #[.slice ac t.cols.length cc, .int .i64 t.head, .int .i64 t.foot, .slice (some ⟨b, off, none⟩) t.rows.length cr, .int .i64 t.gap] 30) = W0 at HK HR HX hx0 hbl ⊢
    have z3 := cellB (p := 3) HX.out
    go_wp2_with fail
    refine (HI.out _).mono ?_
    rintro e w1 ⟨rfl, e1⟩
    subst e1
    go_wp2
    go_ret
    exact ⟨by rw [Hv.out]; rfl, HK.out⟩
  · have hv := HV.out
    rw [if_neg hin] at hv
    rw [Bool.eq_false_iff.2 hin] at HI
    have Hv := Hid.intro hv
    clear hv HV hin
    go_enter Try.func44, Try.ntmps44
    go_upto_region 1 with fail
    generalize w.alloc (.cells #[.slice ac t.cols.length cc, .int .i64 t.head, .int .i64 t.foot, .slice ar t.rows.length cr, .int .i64 t.gap] 30) = W0 at HK HR HX ⊢
    have z3 := cellB (p := 3) HX.out
    go_wp2_with fail
    refine (HI.out _).mono ?_
    rintro e w1 ⟨rfl, e1⟩
    subst e1
    go_wp2
    go_ret
    exact ⟨by rw [Hv.out]; rfl, HK.out⟩

theorem cellsIn_bound (t : T) (row : Int) (h : ∀ r ∈ t.rows, r.cells.length ≤ 1048576) : -1 ≤ cellsInV t row ∧ cellsInV t row ≤ 1048576 := by
  unfold cellsInV
  split
  · rename_i hin
    have hl : row.toNat < t.rows.length := by simp only [inB, decide_eq_true_eq] at hin; omega
    have := h _ (List.getElem_mem hl)
    rw [getD_get dR hl]
    omega
  · omega
set_option maxRecDepth 100000 in
set_option maxHeartbeats 2000000 in
theorem implHasCell (ac ar : Option Addr) (cc cr : Nat) (t : T) (row at' : Int) (hrow : -9223372036854775808 ≤ row ∧ row ≤ 9223372036854775807) (hcs : ∀ r ∈ t.rows, r.cells.length ≤ 1048576) (w : World) {z : Nat} (hr : RowsAt w z (.slice ar t.rows.length cr) t.rows) :
    Calls Try.prog 23 #[.agg #[.slice ac t.cols.length cc, .int .i64 t.head, .int .i64 t.foot, .slice ar t.rows.length cr, .int .i64 t.gap], .int .i64 row, .int .i64 at'] w fun e w' => e = .returned (.bool (hasB t row at')) ∧ Below w.heap.size w w' := by
  have K0 := k_alloc (Below.refl w.heap.size w) (.cells #[.slice ac t.cols.length cc, .int .i64 t.head, .int .i64 t.foot, .slice ar t.rows.length cr, .int .i64 t.gap] 30)
  have HK := Hid.intro K0
  have HX := Hid.intro (newestB w (.cells #[.slice ac t.cols.length cc, .int .i64 t.head, .int .i64 t.foot, .slice ar t.rows.length cr, .int .i64 t.gap] 30))
  have KC := Hid.intro (implCellsIn ac ar cc cr t row hrow _ (hr.kept K0))
  have hcb := cellsIn_bound t row hcs
  have HI := Hid.intro (fun W => within_any at' 0 (cellsInV t row - 1) W)
  have HV : Hid (hasB t row at' = inB at' 0 (cellsInV t row - 1)) := rfl
  clear hr K0 hcs
  go_enter Try.func23, Try.ntmps23
  go_upto_region 1 with fail
  generalize w.alloc (.cells #[.slice ac t.cols.length cc, .int .i64 t.head, .int .i64 t.foot, .slice ar t.rows.length cr, .int .i64 t.gap] 30) = W0 at HK HX KC ⊢
  obtain ⟨z0, z1, z2, z3, z4⟩ := fiveO HX.out
  generalize cellsInV t row = cv at KC hcb HI HV
  go_wp2_with fail
  refine KC.out.mono ?_
  rintro e w1 ⟨rfl, hb1⟩
  have HB1 := Hid.intro (k_trans HK.out hb1)
  clear hb1 z0 z1 z2 z3 z4
  go_wp2_with fail
  refine (HI.out _).mono ?_
  rintro e w2 ⟨rfl, e2⟩
  subst e2
  go_wp2
  go_ret
  exact ⟨by rw [HV.out]; rfl, HB1.out⟩
end Go.Proofs.Ytojogjlblgcioap
