/-
  PROVED HERE: an append that fits; cells that are owned, the first ones and the last ones of them. Also: a table that is owned, behind a write into one place of one of its cells. Also: boxes that are newly made, and how many cells a row of a table that is ok has.
-/
import Derived.Test.YtggmjiddadjilaoB11
import Derived.WalkLawsBesides
import Derived.WalkSpells
import Derived.Deep.RegionWith
import Derived.Deep.QuietTactic
import Derived.BigQuiet
import Derived.Deep.Cut
import Derived.Laws.OwnMore
import Derived.Laws.IdiomCopy
namespace Go.Proofs.Ytggmjiddadjilao
open Go.RowKit

theorem wp_append_fits {P : Program} (w : World) {o : Oper} {a : Act} {K : Act → World → Prop} {Q : Exit → Act → World → Prop} (s x : Operand) (t : TypeId)
    (ho : o.op = .call { callee := .builtin .append, args := #[s, x], argTypes := #[t, t] })
    (base : Nat) (e : TypeId) (i : TypeInfo) (size : Nat) (ht : P.underlying t = some (.slice e)) (hi : P.info? e = some i) (hsize : i.size = size)
    (g n cap : Nat) (xs : List Value) (hs : a.eval s = .slice (some ⟨g, 0, none⟩) n cap) (hown : w.ownsRow base e size (.slice (some ⟨g, 0, none⟩) n cap) n xs)
    (ad : Addr) (m c : Nat) (news : List Value) (hx : a.eval x = .slice (some ad) m c) (hl : news.length = m * size) (hnews : ∀ j u, news[j]? = some u → w.cell? (ad.add j) = some u) (h1 : ∀ u ∈ news, u.oneCell' = true) (hroom : n + m ≤ cap)
    (h : ∀ w', w'.ownsRow base e size (.slice (some ⟨g, 0, none⟩) (n + m) cap) (n + m) (xs ++ news) → w.grownBy w' (some g) → K (a.put o.dst (.slice (some ⟨g, 0, none⟩) (n + m) cap)) w') : o.wp P a w K Q := by
  obtain ⟨w', hr, h2, h3⟩ := run_append_fits (P := P) w base t o.type e i size ht hi hsize g n cap xs hown ad m c news hl hnews h1 hroom
  unfold Oper.wp execOp
  simp only [ho, resolve, invoke, builtin, Sem.run_bind, Sem.run_pure, Result.andThen_ok, List.map_toArray, List.map_cons, List.map_nil, hs, hx, hr]
  exact h w' h2 h3
theorem row_kept9 {w w' : World} {base : Nat} {e : TypeId} {sz : Nat} {v : Value} {m : Nat} {xs : List Value} (h : w.ownsRow base e sz v m xs) (k : Below w.heap.size w w') : w'.ownsRow base e sz v m xs := row_since h (.of_below k)
/-- the first cells of a row of cells -/
theorem OwnC.take {w : World} {B g n cap : Nat} {cs : List C} (h : OwnC w B (.slice (some ⟨g, 0, none⟩) n cap) cs) (hn : cs.length = n) {a : Nat} (ha : a ≤ n) : w.ownsRow B 62 11 (.slice (some ⟨g, 0, none⟩) a cap) a ((cs.take a).flatMap cellVs) := by
  rcases h.2 with ⟨e, _⟩ | ⟨g', cap', cur, e, hg, hc, a1, a2, a3, a4⟩
  · simp at e
  · simp only [Value.slice.injEq, Option.some.injEq, Addr.mk.injEq, and_true] at e
    obtain ⟨rfl, _, rfl⟩ := e
    have hl : (cs.take a).length = a := by rw [List.length_take]; omega
    refine ⟨by rw [flat_len cellVs 11 (fun _ => rfl), hl], .inr ⟨g, cap, cur, rfl, hg, hc, by omega, a2, a3, ?_⟩⟩
    have e := flat_take cellVs 11 (fun _ => rfl) (cs.take a) cur (by rw [hl, a3]; omega) (fun i hi j hj => by
      rw [hl] at hi
      have e := flat_get cellVs 11 (fun _ => rfl) cs i (by omega) j hj
      rw [← a4, List.getElem?_take_of_lt (by omega), Array.getElem?_toList] at e
      rw [e, List.getElem_take])
    rw [hl] at e
    exact e
theorem OwnC.tail {w : World} {B g n cap : Nat} {cs : List C} (h : OwnC w B (.slice (some ⟨g, 0, none⟩) n cap) cs) (hn : cs.length = n) {p : Nat} (hp : n * 11 ≤ p) (v : Value) : OwnC (w.setCell ⟨g, p, none⟩ v) B (.slice (some ⟨g, 0, none⟩) n cap) cs := by
  rcases h.2 with ⟨e, _⟩ | ⟨g', cap', cur, e, hg, hc, a1, a2, a3, a4⟩
  · simp at e
  · simp only [Value.slice.injEq, Option.some.injEq, Addr.mk.injEq, and_true] at e
    obtain ⟨rfl, _, rfl⟩ := e
    refine ⟨h.1, .inr ⟨g, cap, cur.setIfInBounds p v, by rw [hn], hg, setB hc _, a1, a2, by rw [Array.size_setIfInBounds]; exact a3, ?_⟩⟩
    rw [← a4]
    apply List.ext_getElem?
    intro k
    by_cases hk : k < cs.length * 11
    · rw [List.getElem?_take_of_lt hk, List.getElem?_take_of_lt hk, Array.getElem?_toList, Array.getElem?_toList, Array.getElem?_setIfInBounds_ne (by omega)]
    · rw [List.getElem?_eq_none (by rw [List.length_take]; omega), List.getElem?_eq_none (by rw [List.length_take]; omega)]
theorem clear_one (w : World) (ty : TypeId) (g o c : Nat) (cur : Array Value) (h : w.heap[g]? = some (.cells cur 62)) (ho : o + 11 ≤ cur.size) :
    (Builtin.clear_ #[86] ty #[.slice (some ⟨g, o, none⟩) 1 c]).run Try.prog w = .ok (.tuple #[]) (w.setCells g o [.string ⟨#[]⟩, .int .i64 0, .int .i64 0, .int .i64 0, .int .i64 0, .int .i64 0, .int .i64 0, .int .i64 0, .int .i64 0, .int .i64 0, .int .i64 0]) := by
  have hst := run_storeCells_cells (P := Try.prog) g o [.string ⟨#[]⟩, .int .i64 0, .int .i64 0, .int .i64 0, .int .i64 0, .int .i64 0, .int .i64 0, .int .i64 0, .int .i64 0, .int .i64 0, .int .i64 0] 0 w (fun j hj => by
    obtain ⟨v, hv⟩ := someB (p := o + 0 + j) h (by simp at hj; omega)
    rw [hv]; rfl) (fun j _ => freeB h) (by simp [Value.oneCell'])
  simp only [Nat.add_zero] at hst
  have hv : ∀ w, (zeroValue 62).run Try.prog w = .ok (Value.agg #[.string ⟨#[]⟩, .int .i64 0, .int .i64 0, .int .i64 0, .int .i64 0, .int .i64 0, .int .i64 0, .int .i64 0, .int .i64 0, .int .i64 0, .int .i64 0]) w := Try.zeroValue62
  have hzc : (Builtin.zeroCells (Value.agg #[.string ⟨#[]⟩, .int .i64 0, .int .i64 0, .int .i64 0, .int .i64 0, .int .i64 0, .int .i64 0, .int .i64 0, .int .i64 0, .int .i64 0, .int .i64 0]).cells 1).toList = [.string ⟨#[]⟩, .int .i64 0, .int .i64 0, .int .i64 0, .int .i64 0, .int .i64 0, .int .i64 0, .int .i64 0, .int .i64 0, .int .i64 0, .int .i64 0] := by kernel_rfl
  simp [Builtin.clear_, run_underlying Try.underlying86, hv, hzc, hst]
end Go.Proofs.Ytggmjiddadjilao
namespace Go.Proofs.Ytggmjiddadjilao
open Go.RowKit

theorem OwnD.put {w W9 : World} {B D : Nat} {vc vr : Value} {cols : List (Int × Int)} {ur : List (Value × R)} (h : OwnD w B D vc vr cols ur) (hb : Below w.heap.size w W9) {r a j : Nat} {p : Value × R} (hp : ur[r]? = some p) {g cap : Nat} (hpv : p.1 = .slice (some ⟨g, 0, none⟩) p.2.cells.length cap) (ha : a < p.2.cells.length) (hj : j < 11) {x : C} {v : Value} (hx : cellVs x = (cellVs p.2.cells[a]).set j v) :
    OwnD (W9.setCell ⟨g, a * 11 + j, none⟩ v) B D vc vr cols (ur.set r (p.1, ⟨p.2.cells.set a x, p.2.whole⟩)) := by
  have h9 := h.kept hb
  have hpm : p ∈ ur := List.mem_of_getElem? hp
  have hC := h9.2.1.cells p hpm
  rw [hpv] at hC
  have hC2 := OwnC.put hC ha hj hx
  have hG : W9.grownBy (W9.setCell ⟨g, a * 11 + j, none⟩ v) p.1.ownBlock := by rw [hpv]; exact grown_set (grown_refl _ _) rfl _
  have hR := h9.2.1.upd hp (r := ⟨p.2.cells.set a x, p.2.whole⟩) rfl (by rw [hpv]; simpa [OwnC] using hC2) hG
  refine ⟨?_, hR, h.2.2.1, h.2.2.2.1, fun q hq b e => ?_⟩
  · have hne := row_ne h9.1 (h9.2.1.cells p hpm) (by decide)
    exact row_off h9.1 (Off.grown (b1 := none) (n := 0) hG) (Nat.zero_le _) (by rcases hb : vc.ownBlock with _ | b; exact .inl rfl; exact .inr (by simp)) hne
  · rcases List.mem_or_eq_of_mem_set hq with hm | rfl
    · exact h.2.2.2.2 q hm b e
    · exact h.2.2.2.2 p hpm b e
/-- two writes into two places of one cell -/
theorem OwnD.put2 {w W9 : World} {B D : Nat} {vc vr : Value} {cols : List (Int × Int)} {ur : List (Value × R)} (h : OwnD w B D vc vr cols ur) (hb : Below w.heap.size w W9) {r a i j : Nat} {p : Value × R} (hp : ur[r]? = some p) {g cap : Nat} (hpv : p.1 = .slice (some ⟨g, 0, none⟩) p.2.cells.length cap) (ha : a < p.2.cells.length) (hi : i < 11) (hj : j < 11) {x y : C} {u v : Value} (hx : cellVs x = (cellVs p.2.cells[a]).set i u) (hy : cellVs y = (cellVs x).set j v) :
    OwnD ((W9.setCell ⟨g, a * 11 + i, none⟩ u).setCell ⟨g, a * 11 + j, none⟩ v) B D vc vr cols (ur.set r (p.1, ⟨p.2.cells.set a y, p.2.whole⟩)) := by
  have hrl : r < ur.length := (List.getElem?_eq_some_iff.1 hp).1
  have h1 := h.put hb hp hpv ha hi hx
  have h2 := h1.put (Below.refl _ _) (r := r) (a := a) (p := (p.1, ⟨p.2.cells.set a x, p.2.whole⟩)) (by rw [List.getElem?_set_self hrl]) (by rw [List.length_set]; exact hpv) (by rw [List.length_set]; exact ha) hj (x := y) (v := v) (by rw [hy]; simp)
  simpa using h2
/-- it stays where one block that is not its own is turned -/
theorem OwnD.other {W W' : World} {B D n : Nat} {vc vr : Value} {cols : List (Int × Int)} {ur : List (Value × R)} (h : OwnD W B D vc vr cols ur) (hn : D ≤ n) (hk : ∀ k, k ≠ n → W'.heap[k]? = W.heap[k]?) : OwnD W' B D vc vr cols ur := by
  obtain ⟨h1, h2, h3, h4, h5⟩ := h
  have key : ∀ {e : TypeId} {sz : Nat} {v : Value} {m : Nat} {xs : List Value}, W.ownsRow B e sz v m xs → (∀ b, v.ownBlock = some b → b < D) → W'.ownsRow B e sz v m xs := fun h hv => by
    refine ⟨h.1, h.2.elim Or.inl (fun ⟨g, cap, cur, e, hg, hc, q⟩ => Or.inr ⟨g, cap, cur, e, hg, ?_, q⟩)⟩
    have hgD : g < D := hv g (by rw [e]; rfl)
    exact (hk g (by omega)).trans hc
  exact ⟨key h1 h3, ⟨key h2.own h4, fun p hp => key (h2.cells p hp) (h5 p hp), h2.apart⟩, h3, h4, h5⟩
theorem below_other {w W W' : World} (h : Below w.heap.size w W) {n : Nat} (hn : w.heap.size ≤ n) (hk : ∀ k, k ≠ n → W'.heap[k]? = W.heap[k]?) (hs : W'.heap.size = W.heap.size) (ho : W'.os = W.os) (ht : W'.tape = W.tape) (hu : W'.output = W.output) : Below w.heap.size w W' :=
  ⟨ho.trans h.os, ht.trans h.tape, hu.trans h.output, by rw [hs]; exact h.size, fun k h1 => (hk k (by omega)).trans (h.block k h1)⟩
/-- a row's cells, as an owned table has them -/
theorem own_row {w : World} {B : Nat} {vr : Value} {ur : List (Value × R)} (h : OwnR w B vr ur) {r : Nat} {p : Value × R} (hp : ur[r]? = some p) {a : Nat} (ha : a < p.2.cells.length) : ∃ g cap cur, p.1 = .slice (some ⟨g, 0, none⟩) p.2.cells.length cap ∧ w.heap[g]? = some (.cells cur 62) ∧ p.2.cells.length ≤ cap ∧ cap ≤ maxLen ∧ cur.size = cap * 11 := by
  rcases (h.cells p (List.mem_of_getElem? hp)).2 with ⟨_, e⟩ | ⟨g, cap, cur, e, hg, hc, a1, a2, a3, _⟩
  · omega
  · exact ⟨g, cap, cur, e, hc, a1, a2, a3⟩
theorem map_set_snd (ur : List (Value × R)) (r : Nat) (q : Value × R) : (ur.set r q).map (·.2) = (ur.map (·.2)).set r q.2 := by simp
theorem own_lt {w : World} {B D : Nat} {vc vr : Value} {cols : List (Int × Int)} {ur : List (Value × R)} (h : OwnD w B D vc vr cols ur) {t : T} (hc : t.cols = cols) (hr : ur.map (·.2) = t.rows) : OwnT w B vc vr t := ⟨ur, hr, by rw [hc]; exact h.1, h.2.1⟩
end Go.Proofs.Ytggmjiddadjilao
namespace Go.Proofs.Ytggmjiddadjilao
open Go.RowKit

theorem alloc_at {w : World} {k : Nat} {o q : Obj} (h : w.heap[k]? = some q) : (w.alloc o).heap[k]? = some q := (Below.heap_alloc w o k (Array.getElem?_eq_some_iff.1 h).1).trans h
theorem alloc_new {w : World} {o : Obj} {k : Nat} (h : w.heap.size = k) : (w.alloc o).heap[k]? = some o := by subst h; exact newestB w o
theorem cells_5 {t : T} (h : tblB t = true) : ∀ r ∈ t.rows, r.cells.length ≤ 1048576 := by
  intro r hr
  obtain ⟨i, hi, rfl⟩ := List.mem_iff_getElem.1 hr
  have := (tbl_bounds h).2.2.2 i hi
  rw [getD_get dR hi] at this
  omega
end Go.Proofs.Ytggmjiddadjilao
