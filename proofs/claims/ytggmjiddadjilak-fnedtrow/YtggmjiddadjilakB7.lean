/-
  PROVED HERE: an append to what is owned, whatever slice is put behind it; rows that are owned grow by one. Also: boxes that are newly made, and how many cells a row of a table that is ok has.
-/
import Derived.Test.YtggmjiddadjilakB6
import Derived.Test.YtggmjiddadjilakB4
import Derived.Laws.AppendOwn
import Derived.Laws.OwnMore
namespace Go.Proofs.Ytggmjiddadjilak
open Go.RowKit

theorem run_append_none {P : Program} {w : World} (base : Nat) (t ty e : TypeId) (i : TypeInfo) (size c : Nat) (ht : P.underlying t = some (.slice e)) (hi : P.info? e = some i)
    (v : Value) (n : Nat) (xs : List Value) (hown : w.ownsRow base e size v n xs) : (Builtin.append_ #[t, t] ty #[v, .slice none 0 c]).run P w = .ok v w := by
  rcases hown.2 with ⟨rfl, rfl⟩ | ⟨g, cap, cur, rfl, _, _, hnc, _⟩
  · simp [Builtin.append_, run_underlying ht, sizeOf, typeInfo, hi, Builtin.lenOf, Builtin.firstCells]
  · simp [Builtin.append_, run_underlying ht, sizeOf, typeInfo, hi, Builtin.lenOf, Builtin.firstCells, hnc, storeCells]
theorem wp_append_src {P : Program} (w : World) {o : Oper} {a : Act} {K : Act → World → Prop} {Q : Exit → Act → World → Prop} (s x : Operand) (t : TypeId)
    (ho : o.op = .call { callee := .builtin .append, args := #[s, x], argTypes := #[t, t] })
    (base : Nat) (e : TypeId) (i : TypeInfo) (z : Value) (size bytes : Nat) (ht : P.underlying t = some (.slice e)) (hi : P.info? e = some i) (hz : i.zero = some z)
    (hsize : i.size = size) (hby : i.bytes = bytes) (hzs : z.cells.size = size) (hsz : 0 < size)
    (v : Value) (n : Nat) (xs : List Value) (hs : a.eval s = v) (hown : w.ownsRow base e size v n xs)
    (ad : Option Addr) (m c : Nat) (news : List Value) (hx : a.eval x = .slice ad m c) (hm : m ≠ 0 → ad ≠ none) (hl : news.length = m * size) (hnews : ∀ p, ad = some p → ∀ j u, news[j]? = some u → w.cell? (p.add j) = some u) (h1 : ∀ u ∈ news, u.oneCell' = true)
    (h63 : n + m ≤ maxLen) (hbytes : (n + m) * bytes ≤ 140737488355328) (hbase : base ≤ w.heap.size)
    (h : ∀ v' w', w'.ownsRow base e size v' (n + m) (xs ++ news) → w.grownBy w' v.ownBlock → K (a.put o.dst v') w') : o.wp P a w K Q := by
  rcases ad with _ | p
  · obtain rfl : m = 0 := by
      rcases Nat.eq_zero_or_pos m with h0 | h0
      · exact h0
      · exact absurd rfl (hm (by omega))
    obtain rfl : news = [] := List.length_eq_zero_iff.1 (by omega)
    have hr := run_append_none (P := P) (w := w) base t o.type e i size c ht hi v n xs hown
    unfold Oper.wp execOp
    simp only [ho, resolve, invoke, builtin, Sem.run_bind, Sem.run_pure, Result.andThen_ok, List.map_toArray, List.map_cons, List.map_nil, hs, hx, hr]
    exact h v w (by simpa using hown) ⟨rfl, rfl, rfl, Nat.le_refl _, fun _ _ _ => rfl⟩
  · exact wp_append_own w s x t ho base e i z size bytes ht hi hz hsize hby hzs hsz v n xs hs hown p m c news hx hl (hnews p rfl) h1 h63 hbytes hbase (fun v' w' h1 h2 _ => h v' w' h1 h2)
/-- rows that are owned, and one more -/
theorem OwnR.push {w w' : World} {B : Nat} {U v' : Value} {ur : List (Value × R)} (h : OwnR w B U ur) (k : w.grownBy w' U.ownBlock) {u : Value} {r : R} (hO : w'.ownsRow B 37 2 v' (ur.length + 1) (ur.flatMap rowVs ++ rowVs (u, r))) (hu : OwnC w B u r.cells) (ha : ∀ p ∈ ur, p.1.ownBlock = none ∨ p.1.ownBlock ≠ u.ownBlock) : OwnR w' B v' (ur ++ [(u, r)]) := by
  have hnn : ∀ u : Value, u.ownBlock = none ∨ u.ownBlock ≠ none := fun u => by rcases hb : u.ownBlock with _ | b; exact .inl rfl; exact .inr (by simp)
  have K1 : Off 0 none U.ownBlock w w' := Off.grown k
  refine ⟨by simpa [List.flatMap_append] using hO, fun p hp => ?_, ?_⟩
  · rcases List.mem_append.1 hp with hp | hp
    · exact row_off (h.cells p hp) K1 (Nat.zero_le _) (hnn _) (row_ne (h.cells p hp) h.own (by decide))
    · rw [List.mem_singleton] at hp
      subst hp
      exact row_off hu K1 (Nat.zero_le _) (hnn _) (row_ne hu h.own (by decide))
  · rw [List.pairwise_append]
    refine ⟨h.apart, List.pairwise_singleton _ _, fun p hp q hq => ?_⟩
    rw [List.mem_singleton] at hq
    subst hq
    exact ha p hp
theorem OwnR.kept {w w' : World} {B : Nat} {U : Value} {ur : List (Value × R)} (h : OwnR w B U ur) (k : Below w.heap.size w w') : OwnR w' B U ur := h.since (.of_below k)
theorem news_cols {w : World} {z : Nat} {a : Option Addr} {cap : Nat} {ps : List (Int × Int)} (h : ColsAt w z (.slice a ps.length cap) ps) : ∀ p, a = some p → ∀ j u, (ps.flatMap colVs)[j]? = some u → w.cell? (p.add j) = some u := by
  refine news_flat colVs 2 (fun _ => rfl) (by decide) ps (fun i hi => ?_)
  obtain ⟨b, off, cap', e', _, _, _, h1, h2⟩ := At.get h hi
  simp only [Value.slice.injEq, true_and] at e'
  refine ⟨b, off, e'.1, fun m hm => ?_⟩
  rw [getD_get (0, 0) hi] at h1 h2
  match m, hm with
  | 0, _ => exact h1
  | 1, _ => exact h2
theorem news_cells {w : World} {z : Nat} {a : Option Addr} {cap : Nat} {cs : List C} (h : CellsAt w z (.slice a cs.length cap) cs) : ∀ p, a = some p → ∀ j u, (cs.flatMap cellVs)[j]? = some u → w.cell? (p.add j) = some u := by
  refine news_flat cellVs 11 (fun _ => rfl) (by decide) cs (fun i hi => ?_)
  obtain ⟨b, off, cap', e', _, _, _, hx, _⟩ := At.get h hi
  simp only [Value.slice.injEq, true_and] at e'
  refine ⟨b, off, e'.1, fun m hm => ?_⟩
  rw [getD_get dC hi] at hx
  obtain ⟨h0, h1, h2, h3, h4, h5, h6, h7, h8, h9, h10⟩ := hx
  match m, hm with
  | 0, _ => exact h0
  | 1, _ => exact h1
  | 2, _ => exact h2
  | 3, _ => exact h3
  | 4, _ => exact h4
  | 5, _ => exact h5
  | 6, _ => exact h6
  | 7, _ => exact h7
  | 8, _ => exact h8
  | 9, _ => exact h9
  | 10, _ => exact h10
theorem row_alloc {w : World} {base : Nat} {e : TypeId} {sz : Nat} {v : Value} {m : Nat} {xs : List Value} (h : w.ownsRow base e sz v m xs) (o : Obj) : (w.alloc o).ownsRow base e sz v m xs := row_since h (.of_below (k_alloc (Below.refl _ _) o))
theorem grown_block {w w' : World} {base : Nat} {e e' : TypeId} {sz : Nat} {v : Value} {m : Nat} {xs : List Value} (h : w.ownsRow base e sz v m xs) (k : w.grownBy w' v.ownBlock) {g : Nat} {cur : Array Value} (hg : w.heap[g]? = some (.cells cur e')) (he : e ≠ e') : w'.heap[g]? = some (.cells cur e') := by
  refine (k.block g (Array.getElem?_eq_some_iff.1 hg).1 (fun e1 => ?_)).trans hg
  rcases row_ne_block h hg he with h4 | h4
  · rw [h4] at e1; cases e1
  · exact h4 e1.symm
theorem grown_own {w w' : World} {base base' : Nat} {e e' : TypeId} {sz sz' : Nat} {v v' : Value} {m m' : Nat} {xs xs' : List Value} (h : w.ownsRow base e sz v m xs) (k : w.grownBy w' v.ownBlock) (h' : w.ownsRow base' e' sz' v' m' xs') (he : e' ≠ e) : w'.ownsRow base' e' sz' v' m' xs' :=
  row_off h' (Off.grown (b1 := none) (n := 0) k) (Nat.zero_le _) (by rcases hb : v'.ownBlock with _ | b; exact .inl rfl; exact .inr (by simp)) (row_ne h' h he)
end Go.Proofs.Ytggmjiddadjilak
namespace Go.Proofs.Ytggmjiddadjilak
open Go.RowKit

theorem alloc_at {w : World} {k : Nat} {o q : Obj} (h : w.heap[k]? = some q) : (w.alloc o).heap[k]? = some q := (Below.heap_alloc w o k (Array.getElem?_eq_some_iff.1 h).1).trans h
theorem alloc_new {w : World} {o : Obj} {k : Nat} (h : w.heap.size = k) : (w.alloc o).heap[k]? = some o := by subst h; exact newestB w o
theorem cells_5 {t : T} (h : tblB t = true) : ∀ r ∈ t.rows, r.cells.length ≤ 1048576 := by
  intro r hr
  obtain ⟨i, hi, rfl⟩ := List.mem_iff_getElem.1 hr
  have := (tbl_bounds h).2.2.2 i hi
  rw [getD_get dR hi] at this
  omega
end Go.Proofs.Ytggmjiddadjilak
