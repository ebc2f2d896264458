/-
  PROVED HERE: the drawing of a cell (l20Cell) gives some cell, and turns nothing that was in memory but the reader.
-/
import Derived.Test.YtggmjiddadjilalB10
import Derived.Test.YtggmjiddadjilalB4
import Derived.Deep.Cut
namespace Go.Proofs.Ytggmjiddadjilal
open Go.RowKit

/-- eleven cells of a block, and none is frozen -/
theorem cells11 {w : World} {g : Nat} {x0 x1 x2 x3 x4 x5 x6 x7 x8 x9 x10 : Value} {t : TypeId} (h : w.heap[g]? = some (.cells #[x0, x1, x2, x3, x4, x5, x6, x7, x8, x9, x10] t)) :
    (w.cell? ⟨g, 0, none⟩ = some x0 ∧ w.cell? ⟨g, 1, none⟩ = some x1 ∧ w.cell? ⟨g, 2, none⟩ = some x2 ∧ w.cell? ⟨g, 3, none⟩ = some x3 ∧ w.cell? ⟨g, 4, none⟩ = some x4 ∧ w.cell? ⟨g, 5, none⟩ = some x5 ∧ w.cell? ⟨g, 6, none⟩ = some x6 ∧ w.cell? ⟨g, 7, none⟩ = some x7 ∧ w.cell? ⟨g, 8, none⟩ = some x8 ∧ w.cell? ⟨g, 9, none⟩ = some x9 ∧ w.cell? ⟨g, 10, none⟩ = some x10) ∧
    (w.frozen? ⟨g, 0, none⟩ = false ∧ w.frozen? ⟨g, 1, none⟩ = false ∧ w.frozen? ⟨g, 2, none⟩ = false ∧ w.frozen? ⟨g, 3, none⟩ = false ∧ w.frozen? ⟨g, 4, none⟩ = false ∧ w.frozen? ⟨g, 5, none⟩ = false ∧ w.frozen? ⟨g, 6, none⟩ = false ∧ w.frozen? ⟨g, 7, none⟩ = false ∧ w.frozen? ⟨g, 8, none⟩ = false ∧ w.frozen? ⟨g, 9, none⟩ = false ∧ w.frozen? ⟨g, 10, none⟩ = false) :=
  ⟨⟨cellB h, cellB h, cellB h, cellB h, cellB h, cellB h, cellB h, cellB h, cellB h, cellB h, cellB h⟩, freeB h, freeB h, freeB h, freeB h, freeB h, freeB h, freeB h, freeB h, freeB h, freeB h, freeB h⟩

/-- eleven stores into a block -/
def st11 (w : World) (g : Nat) (y0 y1 y2 y3 y4 y5 y6 y7 y8 y9 y10 : Value) : World := ((((((((((w.setCell ⟨g, 0, none⟩ y0).setCell ⟨g, 1, none⟩ y1).setCell ⟨g, 2, none⟩ y2).setCell ⟨g, 3, none⟩ y3).setCell ⟨g, 4, none⟩ y4).setCell ⟨g, 5, none⟩ y5).setCell ⟨g, 6, none⟩ y6).setCell ⟨g, 7, none⟩ y7).setCell ⟨g, 8, none⟩ y8).setCell ⟨g, 9, none⟩ y9).setCell ⟨g, 10, none⟩ y10
theorem st11_bk (w : World) (g : Nat) (y0 y1 y2 y3 y4 y5 y6 y7 y8 y9 y10 : Value) : Bk g w (st11 w g y0 y1 y2 y3 y4 y5 y6 y7 y8 y9 y10) :=
  (Bk.set (Bk.set (Bk.set (Bk.set (Bk.set (Bk.set (Bk.set (Bk.set (Bk.set (Bk.set (Bk.set (Bk.refl g w) (p := ⟨g, 0, none⟩) (.inl rfl) y0) (p := ⟨g, 1, none⟩) (.inl rfl) y1) (p := ⟨g, 2, none⟩) (.inl rfl) y2) (p := ⟨g, 3, none⟩) (.inl rfl) y3) (p := ⟨g, 4, none⟩) (.inl rfl) y4) (p := ⟨g, 5, none⟩) (.inl rfl) y5) (p := ⟨g, 6, none⟩) (.inl rfl) y6) (p := ⟨g, 7, none⟩) (.inl rfl) y7) (p := ⟨g, 8, none⟩) (.inl rfl) y8) (p := ⟨g, 9, none⟩) (.inl rfl) y9) (p := ⟨g, 10, none⟩) (.inl rfl) y10)
theorem st11_is {w : World} {g : Nat} {x0 x1 x2 x3 x4 x5 x6 x7 x8 x9 x10 : Value} {t : TypeId} (h : w.heap[g]? = some (.cells #[x0, x1, x2, x3, x4, x5, x6, x7, x8, x9, x10] t)) (y0 y1 y2 y3 y4 y5 y6 y7 y8 y9 y10 : Value) :
    (st11 w g y0 y1 y2 y3 y4 y5 y6 y7 y8 y9 y10).heap[g]? = some (.cells #[y0, y1, y2, y3, y4, y5, y6, y7, y8, y9, y10] t) :=
  (setB (setB (setB (setB (setB (setB (setB (setB (setB (setB (setB h (p := 0) y0) (p := 1) y1) (p := 2) y2) (p := 3) y3) (p := 4) y4) (p := 5) y5) (p := 6) y6) (p := 7) y7) (p := 8) y8) (p := 9) y9) (p := 10) y10).trans (by simp)
theorem Bk.via {r g : Nat} {a b c : World} (h : Bk r a b) (k : Bk g b c) (hg : a.heap.size ≤ g) : Bk r a c :=
  ⟨k.os.trans h.os, k.tape.trans h.tape, k.output.trans h.output, Nat.le_trans h.size k.size, fun i hi hr => (k.block i (Nat.lt_of_lt_of_le hi h.size) (by omega)).trans (h.block i hi hr)⟩
theorem Hp.off {n0 g g' : Nat} {w w' : World} {zs cs : Array Value} {t t' : TypeId} (h : Hp n0 w g' (.cells cs t')) (hg : Hp n0 w g (.cells zs t)) (ht : t ≠ t') (k : Bk g w w') : Hp n0 w' g' (.cells cs t') :=
  ⟨h.1, (k.block g' h.lt (fun e => by subst e; have := h.2.symm.trans hg.2; simp at this; exact ht this.2.symm)).trans h.2⟩
theorem PL.off {n0 n g : Nat} {w w' : World} {arr zs : Array Value} {t : TypeId} {u : Value} (h : PL n0 w n arr u) (hg : Hp n0 w g (.cells zs t)) (ht : t ≠ 3) (k : Bk g w w') : PL n0 w' n arr u := by
  obtain ⟨g', e, hg'⟩ := h; exact ⟨g', e, hg'.off hg ht k⟩
theorem PA.off {n0 g : Nat} {w w' : World} {lo hi : Int} {zs : Array Value} {t : TypeId} {u : Value} (h : PA n0 w lo hi u) (hg : Hp n0 w g (.cells zs t)) (ht : t ≠ 3) (k : Bk g w w') : PA n0 w' lo hi u := by
  obtain ⟨g', k', arr, e, hg', hv⟩ := h; exact ⟨g', k', arr, e, hg'.off hg ht k, hv⟩

/-- a cell's eleven cells -/
def cellA (s : ByteArray) (c q a1 b1 a2 b2 a3 b3 a4 b4 : Int) : Array Value := #[.string s, .int .i64 c, .int .i64 q, .int .i64 a1, .int .i64 b1, .int .i64 a2, .int .i64 b2, .int .i64 a3, .int .i64 b3, .int .i64 a4, .int .i64 b4]
theorem cellA_two {w : World} {g : Nat} {arr arr' : Array Value} {t : TypeId} {p : Nat} {x y : Value} (h : w.heap[g]? = some (.cells arr t)) (e : (arr.setIfInBounds p x).setIfInBounds (p + 1) y = arr') :
    ((w.setCell ⟨g, p, none⟩ x).setCell ⟨g, p + 1, none⟩ y).heap[g]? = some (.cells arr' t) := by rw [setB (setB h x) y, e]
theorem cellA_one {w : World} {g : Nat} {arr arr' : Array Value} {t : TypeId} {p : Nat} {x : Value} (h : w.heap[g]? = some (.cells arr t)) (e : arr.setIfInBounds p x = arr') :
    (w.setCell ⟨g, p, none⟩ x).heap[g]? = some (.cells arr' t) := by rw [setB h x, e]
theorem Rd.two {w : World} {r B g p q : Nat} (h : Rd w r B) (hg : r < g) (x y : Value) : Rd ((w.setCell ⟨g, p, none⟩ x).setCell ⟨g, q, none⟩ y) r B := (h.set (p := ⟨g, p, none⟩) hg x).set (p := ⟨g, q, none⟩) hg y
theorem Bk.two {r g p q : Nat} {a w : World} (h : Bk r a w) (hg : a.heap.size ≤ g) (x y : Value) : Bk r a ((w.setCell ⟨g, p, none⟩ x).setCell ⟨g, q, none⟩ y) := (h.set (p := ⟨g, p, none⟩) (.inr hg) x).set (p := ⟨g, q, none⟩) (.inr hg) y
theorem off2 {w : World} {g k p q : Nat} (h : k ≠ g) (x y : Value) : ((w.setCell ⟨g, p, none⟩ x).setCell ⟨g, q, none⟩ y).heap[k]? = w.heap[k]? := (Below.heap_setCell _ _ _ _ h).trans (Below.heap_setCell _ _ _ _ h)
theorem rd_first {w : World} {r B : Nat} (h : Rd w r B) : ∃ a len cap, w.cell? ⟨r, 0, none⟩ = some (.slice a len cap) := by
  obtain ⟨a, len, cap, p, _, _, hk, _⟩ := h
  exact ⟨a, len, cap, by simp [World.cell?, hk]⟩

set_option maxRecDepth 100000 in
set_option maxHeartbeats 4000000 in
theorem l20Cell_any (r B : Nat) (n : Int) (hn : 1 ≤ n) (w : World) (h : Rd w r B) (hB : B ≤ 700000) :
    Calls Try.prog 34 #[.pointer (some ⟨r, 0, none⟩), .int .i64 n] w fun e w' => ∃ x : C, e = .returned (.agg #[.string x.s, .int .i64 x.c, .int .i64 x.r, .int .i64 x.a1, .int .i64 x.b1, .int .i64 x.a2, .int .i64 x.b2, .int .i64 x.a3, .int .i64 x.b3, .int .i64 x.a4, .int .i64 x.b4]) ∧ x.s.size ≤ 61 ∧ (x.r ≤ 3 ∨ x.r = 5) ∧ Rd w' r (B + 50) ∧ Bk r w w' := by
  have hlt := h.lt
  have HR : Hid (Rd w r B) := h
  clear h
  go_enter Try.func34, Try.ntmps34
  go_wp2_with fail
  refine wp_region_inv (cellJ r B w.heap.size n w) (by kernel_rfl) (by kernel_rfl) ?hs ?hd ?h0
  case hs =>
    rename_i K0 hK0
    intro L a W i o hJ ho hLi haft K hK
    clear hK0
    obtain ⟨v5, v6, v7, v8, v9, v10, v11, v12, v13, v14, v15, v16, v17, v18, rfl, J⟩ := hJ
    have hi : i < 15 := by
      have := (Array.getElem?_eq_some_iff.1 ho).1
      simpa using this
    rcases (by omega : i = 0 ∨ i = 1 ∨ i = 2 ∨ i = 3 ∨ i = 4 ∨ i = 5 ∨ i = 6 ∨ i = 7 ∨ i = 8 ∨ i = 9 ∨ i = 10 ∨ i = 11 ∨ i = 12 ∨ i = 13 ∨ i = 14) with rfl | rfl | rfl | rfl | rfl | rfl | rfl | rfl | rfl | rfl | rfl | rfl | rfl | rfl | rfl
    all_goals
      simp only [List.getElem?_toArray, List.getElem?_cons_zero, List.getElem?_cons_succ, Option.some.injEq] at ho
      subst ho
      simp [Region.binds] at haft
      clear hi
    · skip
      go_simp
      exact hK _ _ ⟨_, _, _, _, _, _, _, _, _, _, _, _, _, _, rfl, ⟨(fun _ => rfl), (fun h => J.f1 (un h)), (fun h => J.f2 (un h)), (fun h => J.f3 (un h)), (fun h => J.f4 (un h)), (fun h => J.f5 (un h)), (fun h => J.f6 (un h)), (fun h => J.f7 (un h)), (fun h => J.f8 (un h)), (fun h => J.f9 (un h)), (fun h => J.f10 (un h)), (fun h => J.f11 (un h)), (fun h => J.f12 (un h)), (fun h => by obtain ⟨g, e, h1, h2⟩ := J.f13 (un h); exact ⟨g, e, h1, fun h3 => h2 (by rwa [upd_ne rfl] at h3)⟩), (fun h => J.f14 (un h)), (fun h => by rw [upd_ne rfl] at h ⊢; exact J.o14 h), (by rw [cnt_same (by decide)]; exact J.rd), J.bk, J.hp⟩⟩
    · skip
      obtain rfl := J.f0 haft
      go_simp
      go_wp2_with (go_at_call 55; refine (l20Text_any r _ _ J.rd (by have := cnt_le L; omega)).mono ?_; rintro e W2 ⟨s, rfl, hs, hR, hb⟩)
      exact ⟨_, _, _, _, _, _, _, _, _, _, _, _, _, _, rfl, ⟨(fun h => J.f0 (un h)), (fun _ => ⟨s, rfl, hs⟩), (fun h => (J.f2 (un h)).bk hlt hb), (fun h => J.f3 (un h)), (fun h => J.f4 (un h)), (fun h => (J.f5 (un h)).bk hlt hb), (fun h => J.f6 (un h)), (fun h => (J.f7 (un h)).bk hlt hb), (fun h => J.f8 (un h)), (fun h => J.f9 (un h)), (fun h => (J.f10 (un h)).bk hlt hb), (fun h => J.f11 (un h)), (fun h => J.f12 (un h)), (fun h => by obtain ⟨g, e, h1, h2⟩ := J.f13 (un h); exact ⟨g, e, h1, fun h3 => (h2 (by rwa [upd_ne rfl] at h3)).bk hlt hb⟩), (fun h => by obtain ⟨g, s, c, q, e, h1, h2, h3⟩ := J.f14 (un h); exact ⟨g, s, c, q, e, h1, h2.bk hlt hb, h3⟩), (fun h => by rw [upd_ne rfl] at h ⊢; exact J.o14 h), (by rw [cnt_1 hLi, ← Nat.add_assoc]; exact hR), (J.bk.trans hb), (J.hp.bk hlt hb)⟩⟩
    · skip
      have hsz := J.bk.size
      go_simp
      exact hK _ _ ⟨_, _, _, _, _, _, _, _, _, _, _, _, _, _, rfl, ⟨(fun h => J.f0 (un h)), (fun h => J.f1 (un h)), (fun _ => ⟨W.heap.size, rfl, Hp.new hsz _⟩), (fun h => J.f3 (un h)), (fun h => J.f4 (un h)), (fun h => (J.f5 (un h)).bk hlt (bk_alloc r W _)), (fun h => J.f6 (un h)), (fun h => (J.f7 (un h)).bk hlt (bk_alloc r W _)), (fun h => J.f8 (un h)), (fun h => J.f9 (un h)), (fun h => (J.f10 (un h)).bk hlt (bk_alloc r W _)), (fun h => J.f11 (un h)), (fun h => J.f12 (un h)), (fun h => by obtain ⟨g, e, h1, h2⟩ := J.f13 (un h); exact ⟨g, e, h1, fun h3 => (h2 (by rwa [upd_ne rfl] at h3)).bk hlt (bk_alloc r W _)⟩), (fun h => by obtain ⟨g, s, c, q, e, h1, h2, h3⟩ := J.f14 (un h); exact ⟨g, s, c, q, e, h1, h2.bk hlt (bk_alloc r W _), h3⟩), (fun h => by rw [upd_ne rfl] at h ⊢; exact J.o14 h), (by rw [cnt_same (by decide)]; exact J.rd.alloc _), (J.bk.trans (bk_alloc r W _)), (J.hp.bk hlt (bk_alloc r W _))⟩⟩
    · skip
      go_simp
      exact hK _ _ ⟨_, _, _, _, _, _, _, _, _, _, _, _, _, _, rfl, ⟨(fun h => J.f0 (un h)), (fun h => J.f1 (un h)), (fun h => J.f2 (un h)), (fun _ => rfl), (fun h => J.f4 (un h)), (fun h => J.f5 (un h)), (fun h => J.f6 (un h)), (fun h => J.f7 (un h)), (fun h => J.f8 (un h)), (fun h => J.f9 (un h)), (fun h => J.f10 (un h)), (fun h => J.f11 (un h)), (fun h => J.f12 (un h)), (fun h => by obtain ⟨g, e, h1, h2⟩ := J.f13 (un h); exact ⟨g, e, h1, fun h3 => h2 (by rwa [upd_ne rfl] at h3)⟩), (fun h => J.f14 (un h)), (fun h => by rw [upd_ne rfl] at h ⊢; exact J.o14 h), (by rw [cnt_same (by decide)]; exact J.rd), J.bk, J.hp⟩⟩
    · skip
      obtain rfl := J.f3 haft.1
      go_simp
      go_wp2_with (go_at_call 38; refine (pick_any r _ _ _ J.rd (by have := cnt_le L; omega)).mono ?_; rintro e W2 ⟨k, rfl, hk, hR, hb⟩)
      have hk2 := hk (by omega)
      exact ⟨_, _, _, _, _, _, _, _, _, _, _, _, _, _, rfl, ⟨(fun h => J.f0 (un h)), (fun h => J.f1 (un h)), (fun h => (J.f2 (un h)).bk hlt hb), (fun h => J.f3 (un h)), (fun _ => ⟨k, rfl, by omega, by omega⟩), (fun h => (J.f5 (un h)).bk hlt hb), (fun h => J.f6 (un h)), (fun h => (J.f7 (un h)).bk hlt hb), (fun h => J.f8 (un h)), (fun h => J.f9 (un h)), (fun h => (J.f10 (un h)).bk hlt hb), (fun h => J.f11 (un h)), (fun h => J.f12 (un h)), (fun h => by obtain ⟨g, e, h1, h2⟩ := J.f13 (un h); exact ⟨g, e, h1, fun h3 => (h2 (by rwa [upd_ne rfl] at h3)).bk hlt hb⟩), (fun h => by obtain ⟨g, s, c, q, e, h1, h2, h3⟩ := J.f14 (un h); exact ⟨g, s, c, q, e, h1, h2.bk hlt hb, h3⟩), (fun h => by rw [upd_ne rfl] at h ⊢; exact J.o14 h), (by rw [cnt_4 hLi, ← Nat.add_assoc]; exact hR), (J.bk.trans hb), (J.hp.bk hlt hb)⟩⟩
    · skip
      obtain ⟨g, rfl, hg⟩ := J.f2 haft.1
      obtain ⟨k, rfl, k0, k1⟩ := J.f4 haft.2
      have k2 : k < 6 := by omega
      obtain ⟨v, hv⟩ := at6 (lo := 1) (hi := 4) (x0 := 1) (x1 := 1) (x2 := 1) (x3 := 2) (x4 := 3) (x5 := 4) (by omega) k k0 k1
      go_simp
      exact hK _ _ ⟨_, _, _, _, _, _, _, _, _, _, _, _, _, _, rfl, ⟨(fun h => J.f0 (un h)), (fun h => J.f1 (un h)), (fun h => J.f2 (un h)), (fun h => J.f3 (un h)), (fun h => J.f4 (un h)), (fun _ => ⟨g, _, _, rfl, hg, v, hv⟩), (fun h => J.f6 (un h)), (fun h => J.f7 (un h)), (fun h => J.f8 (un h)), (fun h => J.f9 (un h)), (fun h => J.f10 (un h)), (fun h => J.f11 (un h)), (fun h => J.f12 (un h)), (fun h => by obtain ⟨g, e, h1, h2⟩ := J.f13 (un h); exact ⟨g, e, h1, fun h3 => h2 (by rwa [upd_ne rfl] at h3)⟩), (fun h => J.f14 (un h)), (fun h => by rw [upd_ne rfl] at h ⊢; exact J.o14 h), (by rw [cnt_same (by decide)]; exact J.rd), J.bk, J.hp⟩⟩
    · skip
      obtain ⟨g, k, arr, rfl, hg, v, hv, hv0, hv1⟩ := J.f5 haft
      have hc : W.cell? ⟨g, k, none⟩ = some (.int .i64 v) := (cellB hg.2).trans hv
      go_simp
      exact hK _ _ ⟨_, _, _, _, _, _, _, _, _, _, _, _, _, _, rfl, ⟨(fun h => J.f0 (un h)), (fun h => J.f1 (un h)), (fun h => J.f2 (un h)), (fun h => J.f3 (un h)), (fun h => J.f4 (un h)), (fun h => J.f5 (un h)), (fun _ => ⟨v, rfl, hv0, hv1⟩), (fun h => J.f7 (un h)), (fun h => J.f8 (un h)), (fun h => J.f9 (un h)), (fun h => J.f10 (un h)), (fun h => J.f11 (un h)), (fun h => J.f12 (un h)), (fun h => by obtain ⟨g, e, h1, h2⟩ := J.f13 (un h); exact ⟨g, e, h1, fun h3 => h2 (by rwa [upd_ne rfl] at h3)⟩), (fun h => J.f14 (un h)), (fun h => by rw [upd_ne rfl] at h ⊢; exact J.o14 h), (by rw [cnt_same (by decide)]; exact J.rd), J.bk, J.hp⟩⟩
    · skip
      have hsz := J.bk.size
      go_simp
      exact hK _ _ ⟨_, _, _, _, _, _, _, _, _, _, _, _, _, _, rfl, ⟨(fun h => J.f0 (un h)), (fun h => J.f1 (un h)), (fun h => (J.f2 (un h)).bk hlt (bk_alloc r W _)), (fun h => J.f3 (un h)), (fun h => J.f4 (un h)), (fun h => (J.f5 (un h)).bk hlt (bk_alloc r W _)), (fun h => J.f6 (un h)), (fun _ => ⟨W.heap.size, rfl, Hp.new hsz _⟩), (fun h => J.f8 (un h)), (fun h => J.f9 (un h)), (fun h => (J.f10 (un h)).bk hlt (bk_alloc r W _)), (fun h => J.f11 (un h)), (fun h => J.f12 (un h)), (fun h => by obtain ⟨g, e, h1, h2⟩ := J.f13 (un h); exact ⟨g, e, h1, fun h3 => (h2 (by rwa [upd_ne rfl] at h3)).bk hlt (bk_alloc r W _)⟩), (fun h => by obtain ⟨g, s, c, q, e, h1, h2, h3⟩ := J.f14 (un h); exact ⟨g, s, c, q, e, h1, h2.bk hlt (bk_alloc r W _), h3⟩), (fun h => by rw [upd_ne rfl] at h ⊢; exact J.o14 h), (by rw [cnt_same (by decide)]; exact J.rd.alloc _), (J.bk.trans (bk_alloc r W _)), (J.hp.bk hlt (bk_alloc r W _))⟩⟩
    · skip
      go_simp
      exact hK _ _ ⟨_, _, _, _, _, _, _, _, _, _, _, _, _, _, rfl, ⟨(fun h => J.f0 (un h)), (fun h => J.f1 (un h)), (fun h => J.f2 (un h)), (fun h => J.f3 (un h)), (fun h => J.f4 (un h)), (fun h => J.f5 (un h)), (fun h => J.f6 (un h)), (fun h => J.f7 (un h)), (fun _ => rfl), (fun h => J.f9 (un h)), (fun h => J.f10 (un h)), (fun h => J.f11 (un h)), (fun h => J.f12 (un h)), (fun h => by obtain ⟨g, e, h1, h2⟩ := J.f13 (un h); exact ⟨g, e, h1, fun h3 => h2 (by rwa [upd_ne rfl] at h3)⟩), (fun h => J.f14 (un h)), (fun h => by rw [upd_ne rfl] at h ⊢; exact J.o14 h), (by rw [cnt_same (by decide)]; exact J.rd), J.bk, J.hp⟩⟩
    · skip
      obtain rfl := J.f8 haft.1
      go_simp
      go_wp2_with (go_at_call 38; refine (pick_any r _ _ _ J.rd (by have := cnt_le L; omega)).mono ?_; rintro e W2 ⟨k, rfl, hk, hR, hb⟩)
      have hk2 := hk (by omega)
      exact ⟨_, _, _, _, _, _, _, _, _, _, _, _, _, _, rfl, ⟨(fun h => J.f0 (un h)), (fun h => J.f1 (un h)), (fun h => (J.f2 (un h)).bk hlt hb), (fun h => J.f3 (un h)), (fun h => J.f4 (un h)), (fun h => (J.f5 (un h)).bk hlt hb), (fun h => J.f6 (un h)), (fun h => (J.f7 (un h)).bk hlt hb), (fun h => J.f8 (un h)), (fun _ => ⟨k, rfl, by omega, by omega⟩), (fun h => (J.f10 (un h)).bk hlt hb), (fun h => J.f11 (un h)), (fun h => J.f12 (un h)), (fun h => by obtain ⟨g, e, h1, h2⟩ := J.f13 (un h); exact ⟨g, e, h1, fun h3 => (h2 (by rwa [upd_ne rfl] at h3)).bk hlt hb⟩), (fun h => by obtain ⟨g, s, c, q, e, h1, h2, h3⟩ := J.f14 (un h); exact ⟨g, s, c, q, e, h1, h2.bk hlt hb, h3⟩), (fun h => by rw [upd_ne rfl] at h ⊢; exact J.o14 h), (by rw [cnt_9 hLi, ← Nat.add_assoc]; exact hR), (J.bk.trans hb), (J.hp.bk hlt hb)⟩⟩
    · skip
      obtain ⟨g, rfl, hg⟩ := J.f7 haft.1
      obtain ⟨k, rfl, k0, k1⟩ := J.f9 haft.2
      have k2 : k < 6 := by omega
      obtain ⟨v, hv⟩ := at6 (lo := 1) (hi := 3) (x0 := 1) (x1 := 1) (x2 := 1) (x3 := 1) (x4 := 2) (x5 := 3) (by omega) k k0 k1
      go_simp
      exact hK _ _ ⟨_, _, _, _, _, _, _, _, _, _, _, _, _, _, rfl, ⟨(fun h => J.f0 (un h)), (fun h => J.f1 (un h)), (fun h => J.f2 (un h)), (fun h => J.f3 (un h)), (fun h => J.f4 (un h)), (fun h => J.f5 (un h)), (fun h => J.f6 (un h)), (fun h => J.f7 (un h)), (fun h => J.f8 (un h)), (fun h => J.f9 (un h)), (fun _ => ⟨g, _, _, rfl, hg, v, hv⟩), (fun h => J.f11 (un h)), (fun h => J.f12 (un h)), (fun h => by obtain ⟨g, e, h1, h2⟩ := J.f13 (un h); exact ⟨g, e, h1, fun h3 => h2 (by rwa [upd_ne rfl] at h3)⟩), (fun h => J.f14 (un h)), (fun h => by rw [upd_ne rfl] at h ⊢; exact J.o14 h), (by rw [cnt_same (by decide)]; exact J.rd), J.bk, J.hp⟩⟩
    · skip
      obtain ⟨g, k, arr, rfl, hg, v, hv, hv0, hv1⟩ := J.f10 haft
      have hc : W.cell? ⟨g, k, none⟩ = some (.int .i64 v) := (cellB hg.2).trans hv
      go_simp
      exact hK _ _ ⟨_, _, _, _, _, _, _, _, _, _, _, _, _, _, rfl, ⟨(fun h => J.f0 (un h)), (fun h => J.f1 (un h)), (fun h => J.f2 (un h)), (fun h => J.f3 (un h)), (fun h => J.f4 (un h)), (fun h => J.f5 (un h)), (fun h => J.f6 (un h)), (fun h => J.f7 (un h)), (fun h => J.f8 (un h)), (fun h => J.f9 (un h)), (fun h => J.f10 (un h)), (fun _ => ⟨v, rfl, hv0, hv1⟩), (fun h => J.f12 (un h)), (fun h => by obtain ⟨g, e, h1, h2⟩ := J.f13 (un h); exact ⟨g, e, h1, fun h3 => h2 (by rwa [upd_ne rfl] at h3)⟩), (fun h => J.f14 (un h)), (fun h => by rw [upd_ne rfl] at h ⊢; exact J.o14 h), (by rw [cnt_same (by decide)]; exact J.rd), J.bk, J.hp⟩⟩
    · skip
      obtain ⟨s, rfl, hs⟩ := J.f1 haft.1
      obtain ⟨c, rfl, c0, c1⟩ := J.f6 haft.2.1
      obtain ⟨q, rfl, q0, q1⟩ := J.f11 haft.2.2
      go_simp
      exact hK _ _ ⟨_, _, _, _, _, _, _, _, _, _, _, _, _, _, rfl, ⟨(fun h => J.f0 (un h)), (fun h => J.f1 (un h)), (fun h => J.f2 (un h)), (fun h => J.f3 (un h)), (fun h => J.f4 (un h)), (fun h => J.f5 (un h)), (fun h => J.f6 (un h)), (fun h => J.f7 (un h)), (fun h => J.f8 (un h)), (fun h => J.f9 (un h)), (fun h => J.f10 (un h)), (fun h => J.f11 (un h)), (fun _ => ⟨s, c, q, rfl, hs, ⟨c0, c1⟩, q0, q1⟩), (fun h => by obtain ⟨g, e, h1, h2⟩ := J.f13 (un h); exact ⟨g, e, h1, fun h3 => h2 (by rwa [upd_ne rfl] at h3)⟩), (fun h => J.f14 (un h)), (fun h => by rw [upd_ne rfl] at h ⊢; exact J.o14 h), (by rw [cnt_same (by decide)]; exact J.rd), J.bk, J.hp⟩⟩
    · skip
      have hsz := J.bk.size
      have hn0 := J.hp.lt
      go_simp
      exact hK _ _ ⟨_, _, _, _, _, _, _, _, _, _, _, _, _, _, rfl, ⟨(fun h => J.f0 (un h)), (fun h => J.f1 (un h)), (fun h => (J.f2 (un h)).bk hlt (bk_alloc r W _)), (fun h => J.f3 (un h)), (fun h => J.f4 (un h)), (fun h => (J.f5 (un h)).bk hlt (bk_alloc r W _)), (fun h => J.f6 (un h)), (fun h => (J.f7 (un h)).bk hlt (bk_alloc r W _)), (fun h => J.f8 (un h)), (fun h => J.f9 (un h)), (fun h => (J.f10 (un h)).bk hlt (bk_alloc r W _)), (fun h => J.f11 (un h)), (fun h => J.f12 (un h)), (fun _ => ⟨W.heap.size, rfl, hn0, fun _ => Hp.new hsz _⟩), (fun h => by have := J.o14 (un h); rw [hLi] at this; cases this), (fun _ => by simp [upd]), (by rw [cnt_same (by decide)]; exact J.rd.alloc _), (J.bk.trans (bk_alloc r W _)), (J.hp.bk hlt (bk_alloc r W _))⟩⟩
    · skip
      obtain ⟨g, rfl, hgn, hg⟩ := J.f13 (by first | exact haft.1 | simp_all)
      obtain ⟨s, c, q, rfl, hp⟩ := J.f12 (by first | exact haft.2.1 | simp_all)
      have hg' := hg hLi
      obtain ⟨Z0, F0⟩ := cells11 hg'.2
      go_simp
      clear Z0 F0
      have k11 := st11_bk W g (.string s) (.int .i64 c) (.int .i64 q) (.int .i64 0) (.int .i64 0) (.int .i64 0) (.int .i64 0) (.int .i64 0) (.int .i64 0) (.int .i64 0) (.int .i64 0)
      have hw11 := st11_is hg'.2 (.string s) (.int .i64 c) (.int .i64 q) (.int .i64 0) (.int .i64 0) (.int .i64 0) (.int .i64 0) (.int .i64 0) (.int .i64 0) (.int .i64 0) (.int .i64 0)
      exact hK _ _ ⟨_, _, _, _, _, _, _, _, _, _, _, _, _, _, rfl, ⟨(fun h => J.f0 (un h)), (fun h => J.f1 (un h)), (fun h => (J.f2 (un h)).off hg' (by decide) k11), (fun h => J.f3 (un h)), (fun h => J.f4 (un h)), (fun h => (J.f5 (un h)).off hg' (by decide) k11), (fun h => J.f6 (un h)), (fun h => (J.f7 (un h)).off hg' (by decide) k11), (fun h => J.f8 (un h)), (fun h => J.f9 (un h)), (fun h => (J.f10 (un h)).off hg' (by decide) k11), (fun h => J.f11 (un h)), (fun h => J.f12 (un h)), (fun h => by obtain ⟨g, e, h1, _⟩ := J.f13 (un h); exact ⟨g, e, h1, fun h3 => by simp [upd] at h3⟩), (fun _ => ⟨g, s, c, q, rfl, hgn, ⟨hg'.1, hw11⟩, hp⟩), (fun _ => by rw [upd_ne rfl]; exact haft.1), (by rw [cnt_same (by decide)]; exact J.rd.keep (fun k hk => k11.block k (by have := J.rd.lt; omega) (by omega))), (J.bk.via k11 (Nat.le_of_lt hgn)), ⟨J.hp.1, (k11.block _ J.hp.lt (by omega)).trans J.hp.2⟩⟩⟩
  case h0 =>
    exact ⟨_, _, _, _, _, _, _, _, _, _, _, _, _, _, rfl, ⟨(fun h => by cases h), (fun h => by cases h), (fun h => by cases h), (fun h => by cases h), (fun h => by cases h), (fun h => by cases h), (fun h => by cases h), (fun h => by cases h), (fun h => by cases h), (fun h => by cases h), (fun h => by cases h), (fun h => by cases h), (fun h => by cases h), (fun h => by cases h), (fun h => by cases h), (fun h => by cases h), (Rd.alloc HR.out _).drew, ((Bk.refl r w).alloc _).drew, Hp.new (Nat.le_refl _) _⟩⟩
  case hd =>
    rename_i K0 hK0
    intro L a W hJ hall
    obtain ⟨v5, v6, v7, v8, v9, v10, v11, v12, v13, v14, v15, v16, v17, v18, rfl, J⟩ := hJ
    obtain ⟨g, s, c, q, rfl, hgn, hg, hp⟩ := J.f14 (hall 14 (by simp))
    have HR1 : Hid (Rd W r (B + 8)) := J.rd.mono (by have := cnt_le L; omega)
    have HB1 := Hid.intro J.bk
    have HP1 := Hid.intro J.hp
    have HG1 := Hid.intro hg
    clear J hall hg
    refine hK0 _ _ ?_
    clear hK0
    have hgr : r < g := by omega
    have hgz : w.heap.size ≠ g := by omega
    have hrz : w.heap.size ≠ r := by omega
    have hgr' : g ≠ r := by omega
    have HGa : Hid (W.heap[g]? = some (.cells (cellA s c q 0 0 0 0 0 0 0 0) 29)) := HG1.out.2
    have HPa : Hid (W.heap[w.heap.size]? = some (.cells zeroC 29)) := HP1.out.2
    have HRa : Hid (Rd W r (B + 8)) := HR1.out
    have HBa := HB1
    clear HR1 HB1 HP1 HG1
    go_wp2_with fail
    skip
    refine (l20Brd_any r (B + 8) 999 (by omega) _ HRa.out (by omega)).mono ?_
    rintro e W0 ⟨x0, y0, rfl, hR, hb⟩
    have HGk := Hid.intro ((hb.block g (by first | exact (Array.getElem?_eq_some_iff.1 HGa.out).1 | (have := (Array.getElem?_eq_some_iff.1 HGa.out).1; omega)) hgr').trans HGa.out)
    have HPk := Hid.intro ((hb.block w.heap.size (Array.getElem?_eq_some_iff.1 HPa.out).1 hrz).trans HPa.out)
    have c0 : W0.cell? ⟨g, 3, none⟩ = some _ := cellB HGk.out
    have c1 : W0.cell? ⟨g, 4, none⟩ = some _ := cellB HGk.out
    have f0 : W0.frozen? ⟨g, 3, none⟩ = false := freeB HGk.out
    have f1 : W0.frozen? ⟨g, 4, none⟩ = false := freeB HGk.out
    simp [cellA] at c0 c1
    have HGb : Hid (((W0.setCell ⟨g, 3, none⟩ (.int .i64 x0)).setCell ⟨g, 4, none⟩ (.int .i64 y0)).heap[g]? = some (.cells (cellA s c q (x0) (y0) (0) (0) (0) (0) (0) (0)) 29)) := cellA_two HGk.out rfl
    have HPb : Hid (((W0.setCell ⟨g, 3, none⟩ (.int .i64 x0)).setCell ⟨g, 4, none⟩ (.int .i64 y0)).heap[w.heap.size]? = some (.cells zeroC 29)) := (off2 hgz _ _).trans HPk.out
    have HRb : Hid (Rd ((W0.setCell ⟨g, 3, none⟩ (.int .i64 x0)).setCell ⟨g, 4, none⟩ (.int .i64 y0)) r (B + 14)) := hR.two hgr _ _
    have HBb := Hid.intro ((HBa.out.trans hb).two (p := 3) (q := 4) (Nat.le_of_lt hgn) (.int .i64 x0) (.int .i64 y0))
    clear hR hb HGk HPk HGa HPa HRa HBa
    go_wp2_with fail
    clear c0 c1 f0 f1
    refine (l20Brd_any r (B + 14) 999 (by omega) _ HRb.out (by omega)).mono ?_
    rintro e W1 ⟨x1, y1, rfl, hR, hb⟩
    have HGk := Hid.intro ((hb.block g (by first | exact (Array.getElem?_eq_some_iff.1 HGb.out).1 | (have := (Array.getElem?_eq_some_iff.1 HGb.out).1; omega)) hgr').trans HGb.out)
    have HPk := Hid.intro ((hb.block w.heap.size (Array.getElem?_eq_some_iff.1 HPb.out).1 hrz).trans HPb.out)
    have c0 : W1.cell? ⟨g, 5, none⟩ = some _ := cellB HGk.out
    have c1 : W1.cell? ⟨g, 6, none⟩ = some _ := cellB HGk.out
    have f0 : W1.frozen? ⟨g, 5, none⟩ = false := freeB HGk.out
    have f1 : W1.frozen? ⟨g, 6, none⟩ = false := freeB HGk.out
    simp [cellA] at c0 c1
    have HGc : Hid (((W1.setCell ⟨g, 5, none⟩ (.int .i64 x1)).setCell ⟨g, 6, none⟩ (.int .i64 y1)).heap[g]? = some (.cells (cellA s c q (x0) (y0) (x1) (y1) (0) (0) (0) (0)) 29)) := cellA_two HGk.out rfl
    have HPc : Hid (((W1.setCell ⟨g, 5, none⟩ (.int .i64 x1)).setCell ⟨g, 6, none⟩ (.int .i64 y1)).heap[w.heap.size]? = some (.cells zeroC 29)) := (off2 hgz _ _).trans HPk.out
    have HRc : Hid (Rd ((W1.setCell ⟨g, 5, none⟩ (.int .i64 x1)).setCell ⟨g, 6, none⟩ (.int .i64 y1)) r (B + 20)) := hR.two hgr _ _
    have HBc := Hid.intro ((HBb.out.trans hb).two (p := 5) (q := 6) (Nat.le_of_lt hgn) (.int .i64 x1) (.int .i64 y1))
    clear hR hb HGk HPk HGb HPb HRb HBb
    go_wp2_with fail
    clear c0 c1 f0 f1
    refine (l20Brd_any r (B + 20) 999 (by omega) _ HRc.out (by omega)).mono ?_
    rintro e W2 ⟨x2, y2, rfl, hR, hb⟩
    have HGk := Hid.intro ((hb.block g (by first | exact (Array.getElem?_eq_some_iff.1 HGc.out).1 | (have := (Array.getElem?_eq_some_iff.1 HGc.out).1; omega)) hgr').trans HGc.out)
    have HPk := Hid.intro ((hb.block w.heap.size (Array.getElem?_eq_some_iff.1 HPc.out).1 hrz).trans HPc.out)
    have c0 : W2.cell? ⟨g, 7, none⟩ = some _ := cellB HGk.out
    have c1 : W2.cell? ⟨g, 8, none⟩ = some _ := cellB HGk.out
    have f0 : W2.frozen? ⟨g, 7, none⟩ = false := freeB HGk.out
    have f1 : W2.frozen? ⟨g, 8, none⟩ = false := freeB HGk.out
    simp [cellA] at c0 c1
    have HGd : Hid (((W2.setCell ⟨g, 7, none⟩ (.int .i64 x2)).setCell ⟨g, 8, none⟩ (.int .i64 y2)).heap[g]? = some (.cells (cellA s c q (x0) (y0) (x1) (y1) (x2) (y2) (0) (0)) 29)) := cellA_two HGk.out rfl
    have HPd : Hid (((W2.setCell ⟨g, 7, none⟩ (.int .i64 x2)).setCell ⟨g, 8, none⟩ (.int .i64 y2)).heap[w.heap.size]? = some (.cells zeroC 29)) := (off2 hgz _ _).trans HPk.out
    have HRd : Hid (Rd ((W2.setCell ⟨g, 7, none⟩ (.int .i64 x2)).setCell ⟨g, 8, none⟩ (.int .i64 y2)) r (B + 26)) := hR.two hgr _ _
    have HBd := Hid.intro ((HBc.out.trans hb).two (p := 7) (q := 8) (Nat.le_of_lt hgn) (.int .i64 x2) (.int .i64 y2))
    clear hR hb HGk HPk HGc HPc HRc HBc
    go_wp2_with fail
    clear c0 c1 f0 f1
    refine (l20Brd_any r (B + 26) 999 (by omega) _ HRd.out (by omega)).mono ?_
    rintro e W3 ⟨x3, y3, rfl, hR, hb⟩
    have HGk := Hid.intro ((hb.block g (by first | exact (Array.getElem?_eq_some_iff.1 HGd.out).1 | (have := (Array.getElem?_eq_some_iff.1 HGd.out).1; omega)) hgr').trans HGd.out)
    have HPk := Hid.intro ((hb.block w.heap.size (Array.getElem?_eq_some_iff.1 HPd.out).1 hrz).trans HPd.out)
    have c0 : W3.cell? ⟨g, 9, none⟩ = some _ := cellB HGk.out
    have c1 : W3.cell? ⟨g, 10, none⟩ = some _ := cellB HGk.out
    have f0 : W3.frozen? ⟨g, 9, none⟩ = false := freeB HGk.out
    have f1 : W3.frozen? ⟨g, 10, none⟩ = false := freeB HGk.out
    simp [cellA] at c0 c1
    have HGe : Hid (((W3.setCell ⟨g, 9, none⟩ (.int .i64 x3)).setCell ⟨g, 10, none⟩ (.int .i64 y3)).heap[g]? = some (.cells (cellA s c q (x0) (y0) (x1) (y1) (x2) (y2) (x3) (y3)) 29)) := cellA_two HGk.out rfl
    have HPe : Hid (((W3.setCell ⟨g, 9, none⟩ (.int .i64 x3)).setCell ⟨g, 10, none⟩ (.int .i64 y3)).heap[w.heap.size]? = some (.cells zeroC 29)) := (off2 hgz _ _).trans HPk.out
    have HRe : Hid (Rd ((W3.setCell ⟨g, 9, none⟩ (.int .i64 x3)).setCell ⟨g, 10, none⟩ (.int .i64 y3)) r (B + 32)) := hR.two hgr _ _
    have HBe := Hid.intro ((HBd.out.trans hb).two (p := 9) (q := 10) (Nat.le_of_lt hgn) (.int .i64 x3) (.int .i64 y3))
    clear hR hb HGk HPk HGd HPd HRd HBd
    obtain ⟨ra, rl, rc, hrc⟩ := rd_first HRe.out
    generalize hW : ((W3.setCell ⟨g, 9, none⟩ (.int .i64 x3)).setCell ⟨g, 10, none⟩ (.int .i64 y3)) = W4 at HGe HPe HRe HBe hrc
    by_cases hz : rl = 0
    · have hz' : ((rl : Int) == 0) = true := by subst hz; rfl
      obtain ⟨⟨z0, z1, z2, z3, z4, z5, z6, z7, z8, z9, z10⟩, ⟨i0, i1, i2, i3, i4, i5, i6, i7, i8, i9, i10⟩⟩ := cells11 HGe.out
      have HGf : Hid ((st11 W4 g (.string ⟨#[]⟩) (.int .i64 1) (.int .i64 1) (.int .i64 0) (.int .i64 0) (.int .i64 0) (.int .i64 0) (.int .i64 0) (.int .i64 0) (.int .i64 0) (.int .i64 0)).heap[g]? = some (.cells (cellA ⟨#[]⟩ (1) (1) (0) (0) (0) (0) (0) (0) (0) (0)) 29)) := st11_is HGe.out (.string ⟨#[]⟩) (.int .i64 1) (.int .i64 1) (.int .i64 0) (.int .i64 0) (.int .i64 0) (.int .i64 0) (.int .i64 0) (.int .i64 0) (.int .i64 0) (.int .i64 0)
      have k11 := st11_bk W4 g (.string ⟨#[]⟩) (.int .i64 1) (.int .i64 1) (.int .i64 0) (.int .i64 0) (.int .i64 0) (.int .i64 0) (.int .i64 0) (.int .i64 0) (.int .i64 0) (.int .i64 0)
      have HPf : Hid ((st11 W4 g (.string ⟨#[]⟩) (.int .i64 1) (.int .i64 1) (.int .i64 0) (.int .i64 0) (.int .i64 0) (.int .i64 0) (.int .i64 0) (.int .i64 0) (.int .i64 0) (.int .i64 0)).heap[w.heap.size]? = some (.cells zeroC 29)) := (k11.block _ (Array.getElem?_eq_some_iff.1 HPe.out).1 hgz).trans HPe.out
      have HRf : Hid (Rd (st11 W4 g (.string ⟨#[]⟩) (.int .i64 1) (.int .i64 1) (.int .i64 0) (.int .i64 0) (.int .i64 0) (.int .i64 0) (.int .i64 0) (.int .i64 0) (.int .i64 0) (.int .i64 0)) r (B + 32)) := HRe.out.keep (fun k hk => k11.block k (by have := HRe.out.lt; omega) (by omega))
      have HBf : Hid (Bk r w (st11 W4 g (.string ⟨#[]⟩) (.int .i64 1) (.int .i64 1) (.int .i64 0) (.int .i64 0) (.int .i64 0) (.int .i64 0) (.int .i64 0) (.int .i64 0) (.int .i64 0) (.int .i64 0))) := HBe.out.via k11 (Nat.le_of_lt hgn)
      clear k11 HGe HPe HRe HBe
      go_wp2_with fail
      clear z0 z1 z2 z3 z4 z5 z6 z7 z8 z9 z10 i0 i1 i2 i3 i4 i5 i6 i7 i8 i9 i10 hrc
      change Calls _ _ _ (st11 W4 g (.string ⟨#[]⟩) (.int .i64 1) (.int .i64 1) (.int .i64 0) (.int .i64 0) (.int .i64 0) (.int .i64 0) (.int .i64 0) (.int .i64 0) (.int .i64 0) (.int .i64 0)) _
      generalize st11 W4 g (.string ⟨#[]⟩) (.int .i64 1) (.int .i64 1) (.int .i64 0) (.int .i64 0) (.int .i64 0) (.int .i64 0) (.int .i64 0) (.int .i64 0) (.int .i64 0) (.int .i64 0) = W5 at HGf HPf HRf HBf ⊢
      refine (pick_any r (B + 32) _ _ HRf.out (by omega)).mono ?_
      rintro e W6 ⟨k, rfl, hk, hR, hb⟩
      obtain ⟨hk1, hk2⟩ := hk hn
      have HG6 : Hid (W6.heap[g]? = some (.cells (cellA ⟨#[]⟩ (1) (1) (0) (0) (0) (0) (0) (0) (0) (0)) 29)) := (hb.block g (Array.getElem?_eq_some_iff.1 HGf.out).1 hgr').trans HGf.out
      have HP6 : Hid (W6.heap[w.heap.size]? = some (.cells zeroC 29)) := (hb.block w.heap.size (Array.getElem?_eq_some_iff.1 HPf.out).1 hrz).trans HPf.out
      have HR6 := Hid.intro hR
      have HB6 := Hid.intro (HBf.out.trans hb)
      clear hR hb hk HGf HPf HRf HBf
      by_cases hk0 : 0 < k
      · skip
        obtain ⟨⟨z0, z1, z2, z3, z4, z5, z6, z7, z8, z9, z10⟩, _⟩ := cells11 HG6.out
        obtain ⟨⟨p0, p1, p2, p3, p4, p5, p6, p7, p8, p9, p10⟩, ⟨i0, i1, i2, i3, i4, i5, i6, i7, i8, i9, i10⟩⟩ := cells11 HP6.out
        have k11 := st11_bk W6 w.heap.size (.string ⟨#[]⟩) (.int .i64 1) (.int .i64 1) (.int .i64 0) (.int .i64 0) (.int .i64 0) (.int .i64 0) (.int .i64 0) (.int .i64 0) (.int .i64 0) (.int .i64 0)
        have hRz : Hid (Rd (st11 W6 w.heap.size (.string ⟨#[]⟩) (.int .i64 1) (.int .i64 1) (.int .i64 0) (.int .i64 0) (.int .i64 0) (.int .i64 0) (.int .i64 0) (.int .i64 0) (.int .i64 0) (.int .i64 0)) r (B + 50)) := (HR6.out.keep (fun k hk => k11.block k (by have := HR6.out.lt; omega) (by omega))).mono (by omega)
        have hBz : Hid (Bk r w (st11 W6 w.heap.size (.string ⟨#[]⟩) (.int .i64 1) (.int .i64 1) (.int .i64 0) (.int .i64 0) (.int .i64 0) (.int .i64 0) (.int .i64 0) (.int .i64 0) (.int .i64 0) (.int .i64 0))) := HB6.out.via k11 (Nat.le_refl _)
        clear k11 HG6 HP6 HR6 HB6
        go_wp2
        exact bodyPost_ret (v := .agg #[.string ⟨#[]⟩, .int .i64 (1), .int .i64 (1), .int .i64 (0), .int .i64 (0), .int .i64 (0), .int .i64 (0), .int .i64 (0), .int .i64 (0), .int .i64 (0), .int .i64 (0)]) (by simp [results, Try.results34, go_sem, p0, p1, p2, p3, p4, p5, p6, p7, p8, p9, p10]) rfl ⟨⟨⟨#[]⟩, 1, 1, 0, 0, 0, 0, 0, 0, 0, 0⟩, rfl, (show (ByteArray.mk #[]).size ≤ 61 by decide), (by dsimp only; omega), hRz.out, hBz.out⟩
      · skip
        go_wp2_with fail
        refine (pick_any r (B + 33) _ _ HR6.out (by omega)).mono ?_
        rintro e W7 ⟨k7, rfl, hk7, hR, hb⟩
        obtain ⟨hk71, hk72⟩ := hk7 (by omega)
        have HG7 : Hid (W7.heap[g]? = some (.cells (cellA ⟨#[]⟩ (1) (1) (0) (0) (0) (0) (0) (0) (0) (0)) 29)) := (hb.block g (Array.getElem?_eq_some_iff.1 HG6.out).1 hgr').trans HG6.out
        have HP7 : Hid (W7.heap[w.heap.size]? = some (.cells zeroC 29)) := (hb.block w.heap.size (Array.getElem?_eq_some_iff.1 HP6.out).1 hrz).trans HP6.out
        have HR7 := Hid.intro hR
        have HB7 := Hid.intro (HB6.out.trans hb)
        clear hR hb hk7 HG6 HP6 HR6 HB6
        rcases (by omega : k7 = 0 ∨ k7 = 1 ∨ k7 = 2 ∨ k7 = 3) with rfl | rfl | rfl | rfl
        · skip
          go_wp2_with fail
          refine (l20AnyText_any r (B + 34) 1 (by omega) _ HR7.out (by omega)).mono ?_
          rintro e W8 ⟨s8, rfl, hs8, hR, hb⟩
          have HG8 : Hid (W8.heap[g]? = some (.cells (cellA ⟨#[]⟩ (1) (1) (0) (0) (0) (0) (0) (0) (0) (0)) 29)) := (hb.block g (Array.getElem?_eq_some_iff.1 HG7.out).1 hgr').trans HG7.out
          have HP8 : Hid (W8.heap[w.heap.size]? = some (.cells zeroC 29)) := (hb.block w.heap.size (Array.getElem?_eq_some_iff.1 HP7.out).1 hrz).trans HP7.out
          have hB8 := HB7.out.trans hb
          have c0 : W8.cell? ⟨g, 0, none⟩ = some _ := cellB HG8.out
          have f0 : W8.frozen? ⟨g, 0, none⟩ = false := freeB HG8.out
          simp [cellA] at c0
          have HG9 : Hid ((W8.setCell ⟨g, 0, none⟩ (.string s8)).heap[g]? = some (.cells (cellA s8 (1) (1) (0) (0) (0) (0) (0) (0) (0) (0)) 29)) := cellA_one HG8.out rfl
          have HP9 : Hid ((W8.setCell ⟨g, 0, none⟩ (.string s8)).heap[w.heap.size]? = some (.cells zeroC 29)) := (Below.heap_setCell _ _ _ _ hgz).trans HP8.out
          have HR9 : Hid (Rd (W8.setCell ⟨g, 0, none⟩ (.string s8)) r (B + 43)) := hR.set (p := ⟨g, 0, none⟩) hgr _
          have HB9 : Hid (Bk r w (W8.setCell ⟨g, 0, none⟩ (.string s8))) := hB8.set (p := ⟨g, 0, none⟩) (.inr (Nat.le_of_lt hgn)) _
          clear hR hb hB8 HG8 HP8 HG7 HP7 HR7 HB7
          go_upto_region 18 with (fail)
          clear c0 f0
          generalize W8.setCell ⟨g, 0, none⟩ (.string s8) = W9 at HG9 HP9 HR9 HB9 ⊢
          obtain ⟨⟨z0, z1, z2, z3, z4, z5, z6, z7, z8, z9, z10⟩, _⟩ := cells11 HG9.out
          obtain ⟨⟨p0, p1, p2, p3, p4, p5, p6, p7, p8, p9, p10⟩, ⟨i0, i1, i2, i3, i4, i5, i6, i7, i8, i9, i10⟩⟩ := cells11 HP9.out
          have k11 := st11_bk W9 w.heap.size (.string s8) (.int .i64 1) (.int .i64 1) (.int .i64 0) (.int .i64 0) (.int .i64 0) (.int .i64 0) (.int .i64 0) (.int .i64 0) (.int .i64 0) (.int .i64 0)
          have hRz : Hid (Rd (st11 W9 w.heap.size (.string s8) (.int .i64 1) (.int .i64 1) (.int .i64 0) (.int .i64 0) (.int .i64 0) (.int .i64 0) (.int .i64 0) (.int .i64 0) (.int .i64 0) (.int .i64 0)) r (B + 50)) := (HR9.out.keep (fun k hk => k11.block k (by have := HR9.out.lt; omega) (by omega))).mono (by omega)
          have hBz : Hid (Bk r w (st11 W9 w.heap.size (.string s8) (.int .i64 1) (.int .i64 1) (.int .i64 0) (.int .i64 0) (.int .i64 0) (.int .i64 0) (.int .i64 0) (.int .i64 0) (.int .i64 0) (.int .i64 0))) := HB9.out.via k11 (Nat.le_refl _)
          clear k11 HG9 HP9 HR9 HB9
          go_wp2
          exact bodyPost_ret (v := .agg #[.string s8, .int .i64 (1), .int .i64 (1), .int .i64 (0), .int .i64 (0), .int .i64 (0), .int .i64 (0), .int .i64 (0), .int .i64 (0), .int .i64 (0), .int .i64 (0)]) (by simp [results, Try.results34, go_sem, p0, p1, p2, p3, p4, p5, p6, p7, p8, p9, p10]) rfl ⟨⟨s8, 1, 1, 0, 0, 0, 0, 0, 0, 0, 0⟩, rfl, hs8, (by dsimp only; omega), hRz.out, hBz.out⟩
        · skip
          go_wp2_with fail
          refine (pick_any r (B + 34) _ _ (HR7.out.alloc _) (by omega)).mono ?_
          rintro e W8 ⟨k8, rfl, hk8, hR, hb⟩
          obtain ⟨k80, k81⟩ := hk8 (by omega)
          have HG8 : Hid (W8.heap[g]? = some (.cells (cellA ⟨#[]⟩ (1) (1) (0) (0) (0) (0) (0) (0) (0) (0)) 29)) := (hb.block g (by have := (Array.getElem?_eq_some_iff.1 HG7.out).1; simp; omega) hgr').trans ((Below.heap_alloc _ _ _ (Array.getElem?_eq_some_iff.1 HG7.out).1).trans HG7.out)
          have HP8 : Hid (W8.heap[w.heap.size]? = some (.cells zeroC 29)) := (hb.block w.heap.size (by have := (Array.getElem?_eq_some_iff.1 HP7.out).1; simp; omega) hrz).trans ((Below.heap_alloc _ _ _ (Array.getElem?_eq_some_iff.1 HP7.out).1).trans HP7.out)
          obtain ⟨c8, hv8, hv9⟩ := at3 k8 k80 k81
          have hcv : W8.cell? ⟨W7.heap.size, k8.toNat, none⟩ = some (.int .i64 c8) := (cellB ((hb.block W7.heap.size (by simp) (by have := HR7.out.lt; omega)).trans (newestB _ _))).trans hv8
          have hB8 := (HB7.out.alloc _).trans hb
          have c0 : W8.cell? ⟨g, 1, none⟩ = some _ := cellB HG8.out
          have f0 : W8.frozen? ⟨g, 1, none⟩ = false := freeB HG8.out
          simp [cellA] at c0
          have HG9 : Hid ((W8.setCell ⟨g, 1, none⟩ (.int .i64 c8)).heap[g]? = some (.cells (cellA ⟨#[]⟩ (c8) (1) (0) (0) (0) (0) (0) (0) (0) (0)) 29)) := cellA_one HG8.out rfl
          have HP9 : Hid ((W8.setCell ⟨g, 1, none⟩ (.int .i64 c8)).heap[w.heap.size]? = some (.cells zeroC 29)) := (Below.heap_setCell _ _ _ _ hgz).trans HP8.out
          have HR9 : Hid (Rd (W8.setCell ⟨g, 1, none⟩ (.int .i64 c8)) r (B + 35)) := hR.set (p := ⟨g, 1, none⟩) hgr _
          have HB9 : Hid (Bk r w (W8.setCell ⟨g, 1, none⟩ (.int .i64 c8))) := hB8.set (p := ⟨g, 1, none⟩) (.inr (Nat.le_of_lt hgn)) _
          clear hR hb hB8 HG8 HP8 HG7 HP7 HR7 HB7
          go_upto_region 18 with (fail)
          clear c0 f0
          generalize W8.setCell ⟨g, 1, none⟩ (.int .i64 c8) = W9 at HG9 HP9 HR9 HB9 ⊢
          obtain ⟨⟨z0, z1, z2, z3, z4, z5, z6, z7, z8, z9, z10⟩, _⟩ := cells11 HG9.out
          obtain ⟨⟨p0, p1, p2, p3, p4, p5, p6, p7, p8, p9, p10⟩, ⟨i0, i1, i2, i3, i4, i5, i6, i7, i8, i9, i10⟩⟩ := cells11 HP9.out
          have k11 := st11_bk W9 w.heap.size (.string ⟨#[]⟩) (.int .i64 c8) (.int .i64 1) (.int .i64 0) (.int .i64 0) (.int .i64 0) (.int .i64 0) (.int .i64 0) (.int .i64 0) (.int .i64 0) (.int .i64 0)
          have hRz : Hid (Rd (st11 W9 w.heap.size (.string ⟨#[]⟩) (.int .i64 c8) (.int .i64 1) (.int .i64 0) (.int .i64 0) (.int .i64 0) (.int .i64 0) (.int .i64 0) (.int .i64 0) (.int .i64 0) (.int .i64 0)) r (B + 50)) := (HR9.out.keep (fun k hk => k11.block k (by have := HR9.out.lt; omega) (by omega))).mono (by omega)
          have hBz : Hid (Bk r w (st11 W9 w.heap.size (.string ⟨#[]⟩) (.int .i64 c8) (.int .i64 1) (.int .i64 0) (.int .i64 0) (.int .i64 0) (.int .i64 0) (.int .i64 0) (.int .i64 0) (.int .i64 0) (.int .i64 0))) := HB9.out.via k11 (Nat.le_refl _)
          clear k11 HG9 HP9 HR9 HB9
          go_wp2
          exact bodyPost_ret (v := .agg #[.string ⟨#[]⟩, .int .i64 (c8), .int .i64 (1), .int .i64 (0), .int .i64 (0), .int .i64 (0), .int .i64 (0), .int .i64 (0), .int .i64 (0), .int .i64 (0), .int .i64 (0)]) (by simp [results, Try.results34, go_sem, p0, p1, p2, p3, p4, p5, p6, p7, p8, p9, p10]) rfl ⟨⟨⟨#[]⟩, c8, 1, 0, 0, 0, 0, 0, 0, 0, 0⟩, rfl, (show (ByteArray.mk #[]).size ≤ 61 by decide), (by dsimp only; omega), hRz.out, hBz.out⟩
        · skip
          go_wp2_with fail
          refine (pick_any r (B + 34) _ _ (HR7.out.alloc _) (by omega)).mono ?_
          rintro e W8 ⟨k8, rfl, hk8, hR, hb⟩
          obtain ⟨k80, k81⟩ := hk8 (by omega)
          have HG8 : Hid (W8.heap[g]? = some (.cells (cellA ⟨#[]⟩ (1) (1) (0) (0) (0) (0) (0) (0) (0) (0)) 29)) := (hb.block g (by have := (Array.getElem?_eq_some_iff.1 HG7.out).1; simp; omega) hgr').trans ((Below.heap_alloc _ _ _ (Array.getElem?_eq_some_iff.1 HG7.out).1).trans HG7.out)
          have HP8 : Hid (W8.heap[w.heap.size]? = some (.cells zeroC 29)) := (hb.block w.heap.size (by have := (Array.getElem?_eq_some_iff.1 HP7.out).1; simp; omega) hrz).trans ((Below.heap_alloc _ _ _ (Array.getElem?_eq_some_iff.1 HP7.out).1).trans HP7.out)
          obtain ⟨q8, hv8, hv9⟩ := at3 k8 k80 k81
          have hcv : W8.cell? ⟨W7.heap.size, k8.toNat, none⟩ = some (.int .i64 q8) := (cellB ((hb.block W7.heap.size (by simp) (by have := HR7.out.lt; omega)).trans (newestB _ _))).trans hv8
          have hB8 := (HB7.out.alloc _).trans hb
          have c0 : W8.cell? ⟨g, 2, none⟩ = some _ := cellB HG8.out
          have f0 : W8.frozen? ⟨g, 2, none⟩ = false := freeB HG8.out
          simp [cellA] at c0
          have HG9 : Hid ((W8.setCell ⟨g, 2, none⟩ (.int .i64 q8)).heap[g]? = some (.cells (cellA ⟨#[]⟩ (1) (q8) (0) (0) (0) (0) (0) (0) (0) (0)) 29)) := cellA_one HG8.out rfl
          have HP9 : Hid ((W8.setCell ⟨g, 2, none⟩ (.int .i64 q8)).heap[w.heap.size]? = some (.cells zeroC 29)) := (Below.heap_setCell _ _ _ _ hgz).trans HP8.out
          have HR9 : Hid (Rd (W8.setCell ⟨g, 2, none⟩ (.int .i64 q8)) r (B + 35)) := hR.set (p := ⟨g, 2, none⟩) hgr _
          have HB9 : Hid (Bk r w (W8.setCell ⟨g, 2, none⟩ (.int .i64 q8))) := hB8.set (p := ⟨g, 2, none⟩) (.inr (Nat.le_of_lt hgn)) _
          clear hR hb hB8 HG8 HP8 HG7 HP7 HR7 HB7
          go_upto_region 18 with (fail)
          clear c0 f0
          generalize W8.setCell ⟨g, 2, none⟩ (.int .i64 q8) = W9 at HG9 HP9 HR9 HB9 ⊢
          obtain ⟨⟨z0, z1, z2, z3, z4, z5, z6, z7, z8, z9, z10⟩, _⟩ := cells11 HG9.out
          obtain ⟨⟨p0, p1, p2, p3, p4, p5, p6, p7, p8, p9, p10⟩, ⟨i0, i1, i2, i3, i4, i5, i6, i7, i8, i9, i10⟩⟩ := cells11 HP9.out
          have k11 := st11_bk W9 w.heap.size (.string ⟨#[]⟩) (.int .i64 1) (.int .i64 q8) (.int .i64 0) (.int .i64 0) (.int .i64 0) (.int .i64 0) (.int .i64 0) (.int .i64 0) (.int .i64 0) (.int .i64 0)
          have hRz : Hid (Rd (st11 W9 w.heap.size (.string ⟨#[]⟩) (.int .i64 1) (.int .i64 q8) (.int .i64 0) (.int .i64 0) (.int .i64 0) (.int .i64 0) (.int .i64 0) (.int .i64 0) (.int .i64 0) (.int .i64 0)) r (B + 50)) := (HR9.out.keep (fun k hk => k11.block k (by have := HR9.out.lt; omega) (by omega))).mono (by omega)
          have hBz : Hid (Bk r w (st11 W9 w.heap.size (.string ⟨#[]⟩) (.int .i64 1) (.int .i64 q8) (.int .i64 0) (.int .i64 0) (.int .i64 0) (.int .i64 0) (.int .i64 0) (.int .i64 0) (.int .i64 0) (.int .i64 0))) := HB9.out.via k11 (Nat.le_refl _)
          clear k11 HG9 HP9 HR9 HB9
          go_wp2
          exact bodyPost_ret (v := .agg #[.string ⟨#[]⟩, .int .i64 (1), .int .i64 (q8), .int .i64 (0), .int .i64 (0), .int .i64 (0), .int .i64 (0), .int .i64 (0), .int .i64 (0), .int .i64 (0), .int .i64 (0)]) (by simp [results, Try.results34, go_sem, p0, p1, p2, p3, p4, p5, p6, p7, p8, p9, p10]) rfl ⟨⟨⟨#[]⟩, 1, q8, 0, 0, 0, 0, 0, 0, 0, 0⟩, rfl, (show (ByteArray.mk #[]).size ≤ 61 by decide), hv9, hRz.out, hBz.out⟩
        · skip
          go_wp2_with fail
          refine (l20Brd_any r (B + 34) 1 (by omega) _ HR7.out (by omega)).mono ?_
          rintro e W8 ⟨x8, y8, rfl, hR, hb⟩
          have HG8 : Hid (W8.heap[g]? = some (.cells (cellA ⟨#[]⟩ (1) (1) (0) (0) (0) (0) (0) (0) (0) (0)) 29)) := (hb.block g (Array.getElem?_eq_some_iff.1 HG7.out).1 hgr').trans HG7.out
          have HP8 : Hid (W8.heap[w.heap.size]? = some (.cells zeroC 29)) := (hb.block w.heap.size (Array.getElem?_eq_some_iff.1 HP7.out).1 hrz).trans HP7.out
          have hB8 := HB7.out.trans hb
          have c0 : W8.cell? ⟨g, 9, none⟩ = some _ := cellB HG8.out
          have c1 : W8.cell? ⟨g, 10, none⟩ = some _ := cellB HG8.out
          have f0 : W8.frozen? ⟨g, 9, none⟩ = false := freeB HG8.out
          have f1 : W8.frozen? ⟨g, 10, none⟩ = false := freeB HG8.out
          simp [cellA] at c0 c1
          have HG9 : Hid (((W8.setCell ⟨g, 9, none⟩ (.int .i64 x8)).setCell ⟨g, 10, none⟩ (.int .i64 y8)).heap[g]? = some (.cells (cellA ⟨#[]⟩ (1) (1) (0) (0) (0) (0) (0) (0) (x8) (y8)) 29)) := cellA_two HG8.out rfl
          have HP9 : Hid (((W8.setCell ⟨g, 9, none⟩ (.int .i64 x8)).setCell ⟨g, 10, none⟩ (.int .i64 y8)).heap[w.heap.size]? = some (.cells zeroC 29)) := (off2 hgz _ _).trans HP8.out
          have HR9 : Hid (Rd ((W8.setCell ⟨g, 9, none⟩ (.int .i64 x8)).setCell ⟨g, 10, none⟩ (.int .i64 y8)) r (B + 40)) := hR.two hgr _ _
          have HB9 : Hid (Bk r w ((W8.setCell ⟨g, 9, none⟩ (.int .i64 x8)).setCell ⟨g, 10, none⟩ (.int .i64 y8))) := hB8.two (Nat.le_of_lt hgn) _ _
          clear hR hb hB8 HG8 HP8 HG7 HP7 HR7 HB7
          go_upto_region 18 with (fail)
          clear c0 f0 c1 f1
          generalize (W8.setCell ⟨g, 9, none⟩ (.int .i64 x8)).setCell ⟨g, 10, none⟩ (.int .i64 y8) = W9 at HG9 HP9 HR9 HB9 ⊢
          obtain ⟨⟨z0, z1, z2, z3, z4, z5, z6, z7, z8, z9, z10⟩, _⟩ := cells11 HG9.out
          obtain ⟨⟨p0, p1, p2, p3, p4, p5, p6, p7, p8, p9, p10⟩, ⟨i0, i1, i2, i3, i4, i5, i6, i7, i8, i9, i10⟩⟩ := cells11 HP9.out
          have k11 := st11_bk W9 w.heap.size (.string ⟨#[]⟩) (.int .i64 1) (.int .i64 1) (.int .i64 0) (.int .i64 0) (.int .i64 0) (.int .i64 0) (.int .i64 0) (.int .i64 0) (.int .i64 x8) (.int .i64 y8)
          have hRz : Hid (Rd (st11 W9 w.heap.size (.string ⟨#[]⟩) (.int .i64 1) (.int .i64 1) (.int .i64 0) (.int .i64 0) (.int .i64 0) (.int .i64 0) (.int .i64 0) (.int .i64 0) (.int .i64 x8) (.int .i64 y8)) r (B + 50)) := (HR9.out.keep (fun k hk => k11.block k (by have := HR9.out.lt; omega) (by omega))).mono (by omega)
          have hBz : Hid (Bk r w (st11 W9 w.heap.size (.string ⟨#[]⟩) (.int .i64 1) (.int .i64 1) (.int .i64 0) (.int .i64 0) (.int .i64 0) (.int .i64 0) (.int .i64 0) (.int .i64 0) (.int .i64 x8) (.int .i64 y8))) := HB9.out.via k11 (Nat.le_refl _)
          clear k11 HG9 HP9 HR9 HB9
          go_wp2
          exact bodyPost_ret (v := .agg #[.string ⟨#[]⟩, .int .i64 (1), .int .i64 (1), .int .i64 (0), .int .i64 (0), .int .i64 (0), .int .i64 (0), .int .i64 (0), .int .i64 (0), .int .i64 (x8), .int .i64 (y8)]) (by simp [results, Try.results34, go_sem, p0, p1, p2, p3, p4, p5, p6, p7, p8, p9, p10]) rfl ⟨⟨⟨#[]⟩, 1, 1, 0, 0, 0, 0, 0, 0, x8, y8⟩, rfl, (show (ByteArray.mk #[]).size ≤ 61 by decide), (by dsimp only; omega), hRz.out, hBz.out⟩
    · have hz' : ((rl : Int) == 0) = false := beq_eq_false_iff_ne.2 (by omega)
      have HGf := HGe
      have HPf := HPe
      have HRf := HRe
      have HBf := HBe
      clear HGe HPe HRe HBe
      go_wp2_with fail
      refine (pick_any r (B + 32) _ _ HRf.out (by omega)).mono ?_
      rintro e W6 ⟨k, rfl, hk, hR, hb⟩
      obtain ⟨hk1, hk2⟩ := hk hn
      have HG6 : Hid (W6.heap[g]? = some (.cells (cellA s (c) (q) (x0) (y0) (x1) (y1) (x2) (y2) (x3) (y3)) 29)) := (hb.block g (Array.getElem?_eq_some_iff.1 HGf.out).1 hgr').trans HGf.out
      have HP6 : Hid (W6.heap[w.heap.size]? = some (.cells zeroC 29)) := (hb.block w.heap.size (Array.getElem?_eq_some_iff.1 HPf.out).1 hrz).trans HPf.out
      have HR6 := Hid.intro hR
      have HB6 := Hid.intro (HBf.out.trans hb)
      clear hR hb hk HGf HPf HRf HBf
      by_cases hk0 : 0 < k
      · skip
        obtain ⟨⟨z0, z1, z2, z3, z4, z5, z6, z7, z8, z9, z10⟩, _⟩ := cells11 HG6.out
        obtain ⟨⟨p0, p1, p2, p3, p4, p5, p6, p7, p8, p9, p10⟩, ⟨i0, i1, i2, i3, i4, i5, i6, i7, i8, i9, i10⟩⟩ := cells11 HP6.out
        have k11 := st11_bk W6 w.heap.size (.string s) (.int .i64 c) (.int .i64 q) (.int .i64 x0) (.int .i64 y0) (.int .i64 x1) (.int .i64 y1) (.int .i64 x2) (.int .i64 y2) (.int .i64 x3) (.int .i64 y3)
        have hRz : Hid (Rd (st11 W6 w.heap.size (.string s) (.int .i64 c) (.int .i64 q) (.int .i64 x0) (.int .i64 y0) (.int .i64 x1) (.int .i64 y1) (.int .i64 x2) (.int .i64 y2) (.int .i64 x3) (.int .i64 y3)) r (B + 50)) := (HR6.out.keep (fun k hk => k11.block k (by have := HR6.out.lt; omega) (by omega))).mono (by omega)
        have hBz : Hid (Bk r w (st11 W6 w.heap.size (.string s) (.int .i64 c) (.int .i64 q) (.int .i64 x0) (.int .i64 y0) (.int .i64 x1) (.int .i64 y1) (.int .i64 x2) (.int .i64 y2) (.int .i64 x3) (.int .i64 y3))) := HB6.out.via k11 (Nat.le_refl _)
        clear k11 HG6 HP6 HR6 HB6
        go_wp2
        exact bodyPost_ret (v := .agg #[.string s, .int .i64 (c), .int .i64 (q), .int .i64 (x0), .int .i64 (y0), .int .i64 (x1), .int .i64 (y1), .int .i64 (x2), .int .i64 (y2), .int .i64 (x3), .int .i64 (y3)]) (by simp [results, Try.results34, go_sem, p0, p1, p2, p3, p4, p5, p6, p7, p8, p9, p10]) rfl ⟨⟨s, c, q, x0, y0, x1, y1, x2, y2, x3, y3⟩, rfl, (Nat.le_trans hp.1 (by omega)), (Or.inl hp.2.2.2), hRz.out, hBz.out⟩
      · skip
        go_wp2_with fail
        refine (pick_any r (B + 33) _ _ HR6.out (by omega)).mono ?_
        rintro e W7 ⟨k7, rfl, hk7, hR, hb⟩
        obtain ⟨hk71, hk72⟩ := hk7 (by omega)
        have HG7 : Hid (W7.heap[g]? = some (.cells (cellA s (c) (q) (x0) (y0) (x1) (y1) (x2) (y2) (x3) (y3)) 29)) := (hb.block g (Array.getElem?_eq_some_iff.1 HG6.out).1 hgr').trans HG6.out
        have HP7 : Hid (W7.heap[w.heap.size]? = some (.cells zeroC 29)) := (hb.block w.heap.size (Array.getElem?_eq_some_iff.1 HP6.out).1 hrz).trans HP6.out
        have HR7 := Hid.intro hR
        have HB7 := Hid.intro (HB6.out.trans hb)
        clear hR hb hk7 HG6 HP6 HR6 HB6
        rcases (by omega : k7 = 0 ∨ k7 = 1 ∨ k7 = 2 ∨ k7 = 3) with rfl | rfl | rfl | rfl
        · skip
          go_wp2_with fail
          refine (l20AnyText_any r (B + 34) 1 (by omega) _ HR7.out (by omega)).mono ?_
          rintro e W8 ⟨s8, rfl, hs8, hR, hb⟩
          have HG8 : Hid (W8.heap[g]? = some (.cells (cellA s (c) (q) (x0) (y0) (x1) (y1) (x2) (y2) (x3) (y3)) 29)) := (hb.block g (Array.getElem?_eq_some_iff.1 HG7.out).1 hgr').trans HG7.out
          have HP8 : Hid (W8.heap[w.heap.size]? = some (.cells zeroC 29)) := (hb.block w.heap.size (Array.getElem?_eq_some_iff.1 HP7.out).1 hrz).trans HP7.out
          have hB8 := HB7.out.trans hb
          have c0 : W8.cell? ⟨g, 0, none⟩ = some _ := cellB HG8.out
          have f0 : W8.frozen? ⟨g, 0, none⟩ = false := freeB HG8.out
          simp [cellA] at c0
          have HG9 : Hid ((W8.setCell ⟨g, 0, none⟩ (.string s8)).heap[g]? = some (.cells (cellA s8 (c) (q) (x0) (y0) (x1) (y1) (x2) (y2) (x3) (y3)) 29)) := cellA_one HG8.out rfl
          have HP9 : Hid ((W8.setCell ⟨g, 0, none⟩ (.string s8)).heap[w.heap.size]? = some (.cells zeroC 29)) := (Below.heap_setCell _ _ _ _ hgz).trans HP8.out
          have HR9 : Hid (Rd (W8.setCell ⟨g, 0, none⟩ (.string s8)) r (B + 43)) := hR.set (p := ⟨g, 0, none⟩) hgr _
          have HB9 : Hid (Bk r w (W8.setCell ⟨g, 0, none⟩ (.string s8))) := hB8.set (p := ⟨g, 0, none⟩) (.inr (Nat.le_of_lt hgn)) _
          clear hR hb hB8 HG8 HP8 HG7 HP7 HR7 HB7
          go_upto_region 18 with (fail)
          clear c0 f0
          generalize W8.setCell ⟨g, 0, none⟩ (.string s8) = W9 at HG9 HP9 HR9 HB9 ⊢
          obtain ⟨⟨z0, z1, z2, z3, z4, z5, z6, z7, z8, z9, z10⟩, _⟩ := cells11 HG9.out
          obtain ⟨⟨p0, p1, p2, p3, p4, p5, p6, p7, p8, p9, p10⟩, ⟨i0, i1, i2, i3, i4, i5, i6, i7, i8, i9, i10⟩⟩ := cells11 HP9.out
          have k11 := st11_bk W9 w.heap.size (.string s8) (.int .i64 c) (.int .i64 q) (.int .i64 x0) (.int .i64 y0) (.int .i64 x1) (.int .i64 y1) (.int .i64 x2) (.int .i64 y2) (.int .i64 x3) (.int .i64 y3)
          have hRz : Hid (Rd (st11 W9 w.heap.size (.string s8) (.int .i64 c) (.int .i64 q) (.int .i64 x0) (.int .i64 y0) (.int .i64 x1) (.int .i64 y1) (.int .i64 x2) (.int .i64 y2) (.int .i64 x3) (.int .i64 y3)) r (B + 50)) := (HR9.out.keep (fun k hk => k11.block k (by have := HR9.out.lt; omega) (by omega))).mono (by omega)
          have hBz : Hid (Bk r w (st11 W9 w.heap.size (.string s8) (.int .i64 c) (.int .i64 q) (.int .i64 x0) (.int .i64 y0) (.int .i64 x1) (.int .i64 y1) (.int .i64 x2) (.int .i64 y2) (.int .i64 x3) (.int .i64 y3))) := HB9.out.via k11 (Nat.le_refl _)
          clear k11 HG9 HP9 HR9 HB9
          go_wp2
          exact bodyPost_ret (v := .agg #[.string s8, .int .i64 (c), .int .i64 (q), .int .i64 (x0), .int .i64 (y0), .int .i64 (x1), .int .i64 (y1), .int .i64 (x2), .int .i64 (y2), .int .i64 (x3), .int .i64 (y3)]) (by simp [results, Try.results34, go_sem, p0, p1, p2, p3, p4, p5, p6, p7, p8, p9, p10]) rfl ⟨⟨s8, c, q, x0, y0, x1, y1, x2, y2, x3, y3⟩, rfl, hs8, (Or.inl hp.2.2.2), hRz.out, hBz.out⟩
        · skip
          go_wp2_with fail
          refine (pick_any r (B + 34) _ _ (HR7.out.alloc _) (by omega)).mono ?_
          rintro e W8 ⟨k8, rfl, hk8, hR, hb⟩
          obtain ⟨k80, k81⟩ := hk8 (by omega)
          have HG8 : Hid (W8.heap[g]? = some (.cells (cellA s (c) (q) (x0) (y0) (x1) (y1) (x2) (y2) (x3) (y3)) 29)) := (hb.block g (by have := (Array.getElem?_eq_some_iff.1 HG7.out).1; simp; omega) hgr').trans ((Below.heap_alloc _ _ _ (Array.getElem?_eq_some_iff.1 HG7.out).1).trans HG7.out)
          have HP8 : Hid (W8.heap[w.heap.size]? = some (.cells zeroC 29)) := (hb.block w.heap.size (by have := (Array.getElem?_eq_some_iff.1 HP7.out).1; simp; omega) hrz).trans ((Below.heap_alloc _ _ _ (Array.getElem?_eq_some_iff.1 HP7.out).1).trans HP7.out)
          obtain ⟨c8, hv8, hv9⟩ := at3 k8 k80 k81
          have hcv : W8.cell? ⟨W7.heap.size, k8.toNat, none⟩ = some (.int .i64 c8) := (cellB ((hb.block W7.heap.size (by simp) (by have := HR7.out.lt; omega)).trans (newestB _ _))).trans hv8
          have hB8 := (HB7.out.alloc _).trans hb
          have c0 : W8.cell? ⟨g, 1, none⟩ = some _ := cellB HG8.out
          have f0 : W8.frozen? ⟨g, 1, none⟩ = false := freeB HG8.out
          simp [cellA] at c0
          have HG9 : Hid ((W8.setCell ⟨g, 1, none⟩ (.int .i64 c8)).heap[g]? = some (.cells (cellA s (c8) (q) (x0) (y0) (x1) (y1) (x2) (y2) (x3) (y3)) 29)) := cellA_one HG8.out rfl
          have HP9 : Hid ((W8.setCell ⟨g, 1, none⟩ (.int .i64 c8)).heap[w.heap.size]? = some (.cells zeroC 29)) := (Below.heap_setCell _ _ _ _ hgz).trans HP8.out
          have HR9 : Hid (Rd (W8.setCell ⟨g, 1, none⟩ (.int .i64 c8)) r (B + 35)) := hR.set (p := ⟨g, 1, none⟩) hgr _
          have HB9 : Hid (Bk r w (W8.setCell ⟨g, 1, none⟩ (.int .i64 c8))) := hB8.set (p := ⟨g, 1, none⟩) (.inr (Nat.le_of_lt hgn)) _
          clear hR hb hB8 HG8 HP8 HG7 HP7 HR7 HB7
          go_upto_region 18 with (fail)
          clear c0 f0
          generalize W8.setCell ⟨g, 1, none⟩ (.int .i64 c8) = W9 at HG9 HP9 HR9 HB9 ⊢
          obtain ⟨⟨z0, z1, z2, z3, z4, z5, z6, z7, z8, z9, z10⟩, _⟩ := cells11 HG9.out
          obtain ⟨⟨p0, p1, p2, p3, p4, p5, p6, p7, p8, p9, p10⟩, ⟨i0, i1, i2, i3, i4, i5, i6, i7, i8, i9, i10⟩⟩ := cells11 HP9.out
          have k11 := st11_bk W9 w.heap.size (.string s) (.int .i64 c8) (.int .i64 q) (.int .i64 x0) (.int .i64 y0) (.int .i64 x1) (.int .i64 y1) (.int .i64 x2) (.int .i64 y2) (.int .i64 x3) (.int .i64 y3)
          have hRz : Hid (Rd (st11 W9 w.heap.size (.string s) (.int .i64 c8) (.int .i64 q) (.int .i64 x0) (.int .i64 y0) (.int .i64 x1) (.int .i64 y1) (.int .i64 x2) (.int .i64 y2) (.int .i64 x3) (.int .i64 y3)) r (B + 50)) := (HR9.out.keep (fun k hk => k11.block k (by have := HR9.out.lt; omega) (by omega))).mono (by omega)
          have hBz : Hid (Bk r w (st11 W9 w.heap.size (.string s) (.int .i64 c8) (.int .i64 q) (.int .i64 x0) (.int .i64 y0) (.int .i64 x1) (.int .i64 y1) (.int .i64 x2) (.int .i64 y2) (.int .i64 x3) (.int .i64 y3))) := HB9.out.via k11 (Nat.le_refl _)
          clear k11 HG9 HP9 HR9 HB9
          go_wp2
          exact bodyPost_ret (v := .agg #[.string s, .int .i64 (c8), .int .i64 (q), .int .i64 (x0), .int .i64 (y0), .int .i64 (x1), .int .i64 (y1), .int .i64 (x2), .int .i64 (y2), .int .i64 (x3), .int .i64 (y3)]) (by simp [results, Try.results34, go_sem, p0, p1, p2, p3, p4, p5, p6, p7, p8, p9, p10]) rfl ⟨⟨s, c8, q, x0, y0, x1, y1, x2, y2, x3, y3⟩, rfl, (Nat.le_trans hp.1 (by omega)), (Or.inl hp.2.2.2), hRz.out, hBz.out⟩
        · skip
          go_wp2_with fail
          refine (pick_any r (B + 34) _ _ (HR7.out.alloc _) (by omega)).mono ?_
          rintro e W8 ⟨k8, rfl, hk8, hR, hb⟩
          obtain ⟨k80, k81⟩ := hk8 (by omega)
          have HG8 : Hid (W8.heap[g]? = some (.cells (cellA s (c) (q) (x0) (y0) (x1) (y1) (x2) (y2) (x3) (y3)) 29)) := (hb.block g (by have := (Array.getElem?_eq_some_iff.1 HG7.out).1; simp; omega) hgr').trans ((Below.heap_alloc _ _ _ (Array.getElem?_eq_some_iff.1 HG7.out).1).trans HG7.out)
          have HP8 : Hid (W8.heap[w.heap.size]? = some (.cells zeroC 29)) := (hb.block w.heap.size (by have := (Array.getElem?_eq_some_iff.1 HP7.out).1; simp; omega) hrz).trans ((Below.heap_alloc _ _ _ (Array.getElem?_eq_some_iff.1 HP7.out).1).trans HP7.out)
          obtain ⟨q8, hv8, hv9⟩ := at3 k8 k80 k81
          have hcv : W8.cell? ⟨W7.heap.size, k8.toNat, none⟩ = some (.int .i64 q8) := (cellB ((hb.block W7.heap.size (by simp) (by have := HR7.out.lt; omega)).trans (newestB _ _))).trans hv8
          have hB8 := (HB7.out.alloc _).trans hb
          have c0 : W8.cell? ⟨g, 2, none⟩ = some _ := cellB HG8.out
          have f0 : W8.frozen? ⟨g, 2, none⟩ = false := freeB HG8.out
          simp [cellA] at c0
          have HG9 : Hid ((W8.setCell ⟨g, 2, none⟩ (.int .i64 q8)).heap[g]? = some (.cells (cellA s (c) (q8) (x0) (y0) (x1) (y1) (x2) (y2) (x3) (y3)) 29)) := cellA_one HG8.out rfl
          have HP9 : Hid ((W8.setCell ⟨g, 2, none⟩ (.int .i64 q8)).heap[w.heap.size]? = some (.cells zeroC 29)) := (Below.heap_setCell _ _ _ _ hgz).trans HP8.out
          have HR9 : Hid (Rd (W8.setCell ⟨g, 2, none⟩ (.int .i64 q8)) r (B + 35)) := hR.set (p := ⟨g, 2, none⟩) hgr _
          have HB9 : Hid (Bk r w (W8.setCell ⟨g, 2, none⟩ (.int .i64 q8))) := hB8.set (p := ⟨g, 2, none⟩) (.inr (Nat.le_of_lt hgn)) _
          clear hR hb hB8 HG8 HP8 HG7 HP7 HR7 HB7
          go_upto_region 18 with (fail)
          clear c0 f0
          generalize W8.setCell ⟨g, 2, none⟩ (.int .i64 q8) = W9 at HG9 HP9 HR9 HB9 ⊢
          obtain ⟨⟨z0, z1, z2, z3, z4, z5, z6, z7, z8, z9, z10⟩, _⟩ := cells11 HG9.out
          obtain ⟨⟨p0, p1, p2, p3, p4, p5, p6, p7, p8, p9, p10⟩, ⟨i0, i1, i2, i3, i4, i5, i6, i7, i8, i9, i10⟩⟩ := cells11 HP9.out
          have k11 := st11_bk W9 w.heap.size (.string s) (.int .i64 c) (.int .i64 q8) (.int .i64 x0) (.int .i64 y0) (.int .i64 x1) (.int .i64 y1) (.int .i64 x2) (.int .i64 y2) (.int .i64 x3) (.int .i64 y3)
          have hRz : Hid (Rd (st11 W9 w.heap.size (.string s) (.int .i64 c) (.int .i64 q8) (.int .i64 x0) (.int .i64 y0) (.int .i64 x1) (.int .i64 y1) (.int .i64 x2) (.int .i64 y2) (.int .i64 x3) (.int .i64 y3)) r (B + 50)) := (HR9.out.keep (fun k hk => k11.block k (by have := HR9.out.lt; omega) (by omega))).mono (by omega)
          have hBz : Hid (Bk r w (st11 W9 w.heap.size (.string s) (.int .i64 c) (.int .i64 q8) (.int .i64 x0) (.int .i64 y0) (.int .i64 x1) (.int .i64 y1) (.int .i64 x2) (.int .i64 y2) (.int .i64 x3) (.int .i64 y3))) := HB9.out.via k11 (Nat.le_refl _)
          clear k11 HG9 HP9 HR9 HB9
          go_wp2
          exact bodyPost_ret (v := .agg #[.string s, .int .i64 (c), .int .i64 (q8), .int .i64 (x0), .int .i64 (y0), .int .i64 (x1), .int .i64 (y1), .int .i64 (x2), .int .i64 (y2), .int .i64 (x3), .int .i64 (y3)]) (by simp [results, Try.results34, go_sem, p0, p1, p2, p3, p4, p5, p6, p7, p8, p9, p10]) rfl ⟨⟨s, c, q8, x0, y0, x1, y1, x2, y2, x3, y3⟩, rfl, (Nat.le_trans hp.1 (by omega)), hv9, hRz.out, hBz.out⟩
        · skip
          go_wp2_with fail
          refine (l20Brd_any r (B + 34) 1 (by omega) _ HR7.out (by omega)).mono ?_
          rintro e W8 ⟨x8, y8, rfl, hR, hb⟩
          have HG8 : Hid (W8.heap[g]? = some (.cells (cellA s (c) (q) (x0) (y0) (x1) (y1) (x2) (y2) (x3) (y3)) 29)) := (hb.block g (Array.getElem?_eq_some_iff.1 HG7.out).1 hgr').trans HG7.out
          have HP8 : Hid (W8.heap[w.heap.size]? = some (.cells zeroC 29)) := (hb.block w.heap.size (Array.getElem?_eq_some_iff.1 HP7.out).1 hrz).trans HP7.out
          have hB8 := HB7.out.trans hb
          have c0 : W8.cell? ⟨g, 9, none⟩ = some _ := cellB HG8.out
          have c1 : W8.cell? ⟨g, 10, none⟩ = some _ := cellB HG8.out
          have f0 : W8.frozen? ⟨g, 9, none⟩ = false := freeB HG8.out
          have f1 : W8.frozen? ⟨g, 10, none⟩ = false := freeB HG8.out
          simp [cellA] at c0 c1
          have HG9 : Hid (((W8.setCell ⟨g, 9, none⟩ (.int .i64 x8)).setCell ⟨g, 10, none⟩ (.int .i64 y8)).heap[g]? = some (.cells (cellA s (c) (q) (x0) (y0) (x1) (y1) (x2) (y2) (x8) (y8)) 29)) := cellA_two HG8.out rfl
          have HP9 : Hid (((W8.setCell ⟨g, 9, none⟩ (.int .i64 x8)).setCell ⟨g, 10, none⟩ (.int .i64 y8)).heap[w.heap.size]? = some (.cells zeroC 29)) := (off2 hgz _ _).trans HP8.out
          have HR9 : Hid (Rd ((W8.setCell ⟨g, 9, none⟩ (.int .i64 x8)).setCell ⟨g, 10, none⟩ (.int .i64 y8)) r (B + 40)) := hR.two hgr _ _
          have HB9 : Hid (Bk r w ((W8.setCell ⟨g, 9, none⟩ (.int .i64 x8)).setCell ⟨g, 10, none⟩ (.int .i64 y8))) := hB8.two (Nat.le_of_lt hgn) _ _
          clear hR hb hB8 HG8 HP8 HG7 HP7 HR7 HB7
          go_upto_region 18 with (fail)
          clear c0 f0 c1 f1
          generalize (W8.setCell ⟨g, 9, none⟩ (.int .i64 x8)).setCell ⟨g, 10, none⟩ (.int .i64 y8) = W9 at HG9 HP9 HR9 HB9 ⊢
          obtain ⟨⟨z0, z1, z2, z3, z4, z5, z6, z7, z8, z9, z10⟩, _⟩ := cells11 HG9.out
          obtain ⟨⟨p0, p1, p2, p3, p4, p5, p6, p7, p8, p9, p10⟩, ⟨i0, i1, i2, i3, i4, i5, i6, i7, i8, i9, i10⟩⟩ := cells11 HP9.out
          have k11 := st11_bk W9 w.heap.size (.string s) (.int .i64 c) (.int .i64 q) (.int .i64 x0) (.int .i64 y0) (.int .i64 x1) (.int .i64 y1) (.int .i64 x2) (.int .i64 y2) (.int .i64 x8) (.int .i64 y8)
          have hRz : Hid (Rd (st11 W9 w.heap.size (.string s) (.int .i64 c) (.int .i64 q) (.int .i64 x0) (.int .i64 y0) (.int .i64 x1) (.int .i64 y1) (.int .i64 x2) (.int .i64 y2) (.int .i64 x8) (.int .i64 y8)) r (B + 50)) := (HR9.out.keep (fun k hk => k11.block k (by have := HR9.out.lt; omega) (by omega))).mono (by omega)
          have hBz : Hid (Bk r w (st11 W9 w.heap.size (.string s) (.int .i64 c) (.int .i64 q) (.int .i64 x0) (.int .i64 y0) (.int .i64 x1) (.int .i64 y1) (.int .i64 x2) (.int .i64 y2) (.int .i64 x8) (.int .i64 y8))) := HB9.out.via k11 (Nat.le_refl _)
          clear k11 HG9 HP9 HR9 HB9
          go_wp2
          exact bodyPost_ret (v := .agg #[.string s, .int .i64 (c), .int .i64 (q), .int .i64 (x0), .int .i64 (y0), .int .i64 (x1), .int .i64 (y1), .int .i64 (x2), .int .i64 (y2), .int .i64 (x8), .int .i64 (y8)]) (by simp [results, Try.results34, go_sem, p0, p1, p2, p3, p4, p5, p6, p7, p8, p9, p10]) rfl ⟨⟨s, c, q, x0, y0, x1, y1, x2, y2, x8, y8⟩, rfl, (Nat.le_trans hp.1 (by omega)), (Or.inl hp.2.2.2), hRz.out, hBz.out⟩
end Go.Proofs.Ytggmjiddadjilal
