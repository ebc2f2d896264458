/-
  PROVED HERE: an append that fits; cells that are owned, the first ones and the last ones of them.
-/
import Derived.Test.YtggmjiddadjilajB7
import Derived.Test.YtggmjiddadjilajB2
import Derived.WalkLawsBesides
import Derived.WalkSpells
import Derived.Deep.RegionWith
import Derived.Deep.QuietTactic
import Derived.BigQuiet
import Derived.Deep.Cut
import Derived.Laws.OwnMore
import Derived.Laws.IdiomCopy
namespace Go.Proofs.Ytggmjiddadjilaj
open Go.RowKit

theorem wp_append_fits {P : Program} (w : World) {o : Oper} {a : Act} {K : Act → World → Prop} {Q : Exit → Act → World → Prop} (s x : Operand) (t : TypeId)
    (ho : o.op = .call { callee := .builtin .append, args := #[s, x], argTypes := #[t, t] })
    (base : Nat) (e : TypeId) (i : TypeInfo) (size : Nat) (ht : P.underlying t = some (.slice e)) (hi : P.info? e = some i) (hsize : i.size = size)
    (g n cap : Nat) (xs : List Value) (hs : a.eval s = .slice (some ⟨g, 0, none⟩) n cap) (hown : w.ownsRow base e size (.slice (some ⟨g, 0, none⟩) n cap) n xs)
    (ad : Addr) (m c : Nat) (news : List Value) (hx : a.eval x = .slice (some ad) m c) (hl : news.length = m * size) (hnews : ∀ j u, news[j]? = some u → w.cell? (ad.add j) = some u) (h1 : ∀ u ∈ news, u.oneCell' = true) (hroom : n + m ≤ cap)
    (h : ∀ w', w'.ownsRow base e size (.slice (some ⟨g, 0, none⟩) (n + m) cap) (n + m) (xs ++ news) → w.grownBy w' (some g) → K (a.put o.dst (.slice (some ⟨g, 0, none⟩) (n + m) cap)) w') : o.wp P a w K Q := by
  obtain ⟨w', hr, h2, h3⟩ := run_append_fits (P := P) w base t o.type e i size ht hi hsize g n cap xs hown ad m c news hl hnews h1 hroom
  unfold Oper.wp execOp
  simp only [ho, resolve, invoke, builtin, Sem.run_bind, Sem.run_pure, Result.andThen_ok, List.map_toArray, List.map_cons, List.map_nil, hs, hx, hr]
  exact h w' h2 h3
theorem row_kept9 {w w' : World} {base : Nat} {e : TypeId} {sz : Nat} {v : Value} {m : Nat} {xs : List Value} (h : w.ownsRow base e sz v m xs) (k : Below w.heap.size w w') : w'.ownsRow base e sz v m xs := row_since h (.of_below k)
/-- the first cells of a row of cells -/
theorem OwnC.take {w : World} {B g n cap : Nat} {cs : List C} (h : OwnC w B (.slice (some ⟨g, 0, none⟩) n cap) cs) (hn : cs.length = n) {a : Nat} (ha : a ≤ n) : w.ownsRow B 41 11 (.slice (some ⟨g, 0, none⟩) a cap) a ((cs.take a).flatMap cellVs) := by
  rcases h.2 with ⟨e, _⟩ | ⟨g', cap', cur, e, hg, hc, a1, a2, a3, a4⟩
  · simp at e
  · simp only [Value.slice.injEq, Option.some.injEq, Addr.mk.injEq, and_true] at e
    obtain ⟨rfl, _, rfl⟩ := e
    have hl : (cs.take a).length = a := by rw [List.length_take]; omega
    refine ⟨by rw [flat_len cellVs 11 (fun _ => rfl), hl], .inr ⟨g, cap, cur, rfl, hg, hc, by omega, a2, a3, ?_⟩⟩
    have e := flat_take cellVs 11 (fun _ => rfl) (cs.take a) cur (by rw [hl, a3]; omega) (fun i hi j hj => by
      rw [hl] at hi
      have e := flat_get cellVs 11 (fun _ => rfl) cs i (by omega) j hj
      rw [← a4, List.getElem?_take_of_lt (by omega), Array.getElem?_toList] at e
      rw [e, List.getElem_take])
    rw [hl] at e
    exact e
theorem OwnC.tail {w : World} {B g n cap : Nat} {cs : List C} (h : OwnC w B (.slice (some ⟨g, 0, none⟩) n cap) cs) (hn : cs.length = n) {p : Nat} (hp : n * 11 ≤ p) (v : Value) : OwnC (w.setCell ⟨g, p, none⟩ v) B (.slice (some ⟨g, 0, none⟩) n cap) cs := by
  rcases h.2 with ⟨e, _⟩ | ⟨g', cap', cur, e, hg, hc, a1, a2, a3, a4⟩
  · simp at e
  · simp only [Value.slice.injEq, Option.some.injEq, Addr.mk.injEq, and_true] at e
    obtain ⟨rfl, _, rfl⟩ := e
    refine ⟨h.1, .inr ⟨g, cap, cur.setIfInBounds p v, by rw [hn], hg, setB hc _, a1, a2, by rw [Array.size_setIfInBounds]; exact a3, ?_⟩⟩
    rw [← a4]
    apply List.ext_getElem?
    intro k
    by_cases hk : k < cs.length * 11
    · rw [List.getElem?_take_of_lt hk, List.getElem?_take_of_lt hk, Array.getElem?_toList, Array.getElem?_toList, Array.getElem?_setIfInBounds_ne (by omega)]
    · rw [List.getElem?_eq_none (by rw [List.length_take]; omega), List.getElem?_eq_none (by rw [List.length_take]; omega)]
theorem clear_one (w : World) (ty : TypeId) (g o c : Nat) (cur : Array Value) (h : w.heap[g]? = some (.cells cur 41)) (ho : o + 11 ≤ cur.size) :
    (Builtin.clear_ #[50] ty #[.slice (some ⟨g, o, none⟩) 1 c]).run Try.prog w = .ok (.tuple #[]) (w.setCells g o [.string ⟨#[]⟩, .int .i64 0, .int .i64 0, .int .i64 0, .int .i64 0, .int .i64 0, .int .i64 0, .int .i64 0, .int .i64 0, .int .i64 0, .int .i64 0]) := by
  have hst := run_storeCells_cells (P := Try.prog) g o [.string ⟨#[]⟩, .int .i64 0, .int .i64 0, .int .i64 0, .int .i64 0, .int .i64 0, .int .i64 0, .int .i64 0, .int .i64 0, .int .i64 0, .int .i64 0] 0 w (fun j hj => by
    obtain ⟨v, hv⟩ := someB (p := o + 0 + j) h (by simp at hj; omega)
    rw [hv]; rfl) (fun j _ => freeB h) (by simp [Value.oneCell'])
  simp only [Nat.add_zero] at hst
  have hv : ∀ w, (zeroValue 41).run Try.prog w = .ok (Value.agg #[.string ⟨#[]⟩, .int .i64 0, .int .i64 0, .int .i64 0, .int .i64 0, .int .i64 0, .int .i64 0, .int .i64 0, .int .i64 0, .int .i64 0, .int .i64 0]) w := Try.zeroValue41
  have hzc : (Builtin.zeroCells (Value.agg #[.string ⟨#[]⟩, .int .i64 0, .int .i64 0, .int .i64 0, .int .i64 0, .int .i64 0, .int .i64 0, .int .i64 0, .int .i64 0, .int .i64 0, .int .i64 0]).cells 1).toList = [.string ⟨#[]⟩, .int .i64 0, .int .i64 0, .int .i64 0, .int .i64 0, .int .i64 0, .int .i64 0, .int .i64 0, .int .i64 0, .int .i64 0, .int .i64 0] := by kernel_rfl
  simp [Builtin.clear_, run_underlying Try.underlying50, hv, hzc, hst]
end Go.Proofs.Ytggmjiddadjilaj
