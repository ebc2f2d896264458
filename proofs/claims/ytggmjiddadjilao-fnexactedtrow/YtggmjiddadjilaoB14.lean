/-
  PROVED HERE: a table with one row more, as a list; rows out of two copies and one between them, in memory. Also: what slices.Insert answers of rows that are owned, a row without cells, and the place behind the last one. Also: the builtin copy over elements of any width, into a block of one's own. Also: what slices.Insert answers of rows that are owned, a row without cells, and a place ahead of the last one, where there is room. Also: what slices.Insert answers of rows that are owned, a row without cells, and a place ahead of the last one, where there is no room.
-/
import Derived.Test.YtggmjiddadjilaoB13
import Derived.Laws.CopyRow
import Derived.Laws.Append
import Derived.Lib.Overlaps
import Derived.Shelf.Spec.SlicesInsert
import Derived.Shelf.Spec.SlicesInsertGrow
namespace Go.Proofs.Ytggmjiddadjilao
open Go.RowKit

/-- is there a place for a row -/
def plcB (t : T) (at' : Int) : Bool := inB at' t.head ((t.rows.length : Int) - t.foot) && decide (t.rows.length < 8)
/-- a table with a row without cells at a place -/
def insT (t : T) (k : Nat) : T := ⟨t.cols, t.head, t.foot, t.rows.take k ++ ⟨[], false⟩ :: t.rows.drop k, t.gap⟩
/-- a table behind a row that came between -/
def edRow (t : T) (at' : Int) : T × Bool := if tblB t = true then (if plcB t at' = true then (insT t at'.toNat, true) else (t, false)) else (zT, false)
theorem ins_len (l : List R) (k : Nat) (x : R) : (l.take k ++ x :: l.drop k).length = l.length + 1 := by
  rw [List.length_append, List.length_cons, List.length_take, List.length_drop]
  omega
theorem ins_mem {l : List R} {k : Nat} {x q : R} (h : q ∈ l.take k ++ x :: l.drop k) : q ∈ l ∨ q = x := by
  rcases List.mem_append.1 h with h | h
  · exact .inl (List.mem_of_mem_take h)
  · rcases List.mem_cons.1 h with h | h
    · exact .inr h
    · exact .inl (List.mem_of_mem_drop h)
theorem smT_row {t : T} {at' : Int} : SmT (edRow t at').1 := by
  unfold edRow
  split
  · rename_i h
    split
    · rename_i h2
      have h8 : t.rows.length < 8 := by
        unfold plcB at h2
        rw [Bool.and_eq_true] at h2
        exact of_decide_eq_true h2.2
      refine ⟨(smT_ok h).cols, ?_, fun i hi => ?_⟩
      · show (t.rows.take _ ++ _ :: t.rows.drop _).length ≤ 9
        rw [ins_len]
        omega
      · change i < (t.rows.take at'.toNat ++ ⟨[], false⟩ :: t.rows.drop at'.toNat).length at hi
        show ((t.rows.take at'.toNat ++ ⟨[], false⟩ :: t.rows.drop at'.toNat).getD i dR).cells.length ≤ 6
        rw [getD_get dR hi]
        rcases ins_mem (List.getElem_mem hi) with hm | hm
        · obtain ⟨j, hj, e⟩ := List.mem_iff_getElem.1 hm
          rw [← e, ← getD_get dR hj]
          exact (smT_ok h).cells j hj
        · rw [hm]
          exact Nat.zero_le _
    · exact smT_ok h
  · exact smT_z
theorem txM_row {t : T} (ht : TxM t) {at' : Int} : TxM (edRow t at').1 := by
  unfold edRow
  split
  · split
    · intro q hq x hx
      rcases ins_mem hq with hm | hm
      · exact ht q hm x hx
      · subst hm
        exact absurd hx (by simp)
    · exact ht
  · exact txM_z
/-- rows out of two copies, and one without cells between them -/
theorem own_ins {w W9 : World} {B B2 : Nat} {vc v1 v2 v9 : Value} {cols : List (Int × Int)} {ux uy : List (Value × R)} {k : Nat} (hc : OwnCol w B vc cols) (hx : OwnR w B v1 ux) (hy : OwnR w B2 v2 uy) (hB2 : B ≤ B2) (hD : ∀ p ∈ ux, ∀ b, p.1.ownBlock = some b → b < B2) (hk : Below w.heap.size w W9) (hw : B ≤ w.heap.size) {m : Nat} (hm : (ux.take k ++ (Value.slice none 0 0, ⟨[], false⟩) :: uy.drop k).length = m)
    (hO : W9.ownsRow w.heap.size 88 2 v9 m ((ux.take k ++ (Value.slice none 0 0, ⟨[], false⟩) :: uy.drop k).flatMap rowVs)) {xb : Nat} {arr : Array Value} (hxb : W9.heap[xb]? = some (.cells arr 56)) (p : Nat) (u : Value) :
    OwnCol (W9.setCell ⟨xb, p, none⟩ u) B vc cols ∧ OwnR (W9.setCell ⟨xb, p, none⟩ u) B v9 (ux.take k ++ (Value.slice none 0 0, ⟨[], false⟩) :: uy.drop k) := by
  subst hm
  have hnn : ∀ u : Value, u.ownBlock = none ∨ u.ownBlock ≠ none := fun u => by rcases hb : u.ownBlock with _ | b; exact .inl rfl; exact .inr (by simp)
  refine ⟨row_put9 (row_since hc (.of_below hk)) hxb (by decide) p u, ⟨row_put9 (row_base hO hw) hxb (by decide) p u, fun q hq => ?_, ?_⟩⟩
  · rcases List.mem_append.1 hq with hq | hq
    · exact row_put9 (row_since (hx.cells q (List.mem_of_mem_take hq)) (.of_below hk)) hxb (by decide) p u
    · rcases List.mem_cons.1 hq with rfl | hq
      · exact ⟨rfl, .inl ⟨rfl, rfl⟩⟩
      · exact row_put9 (row_base (row_since (hy.cells q (List.mem_of_mem_drop hq)) (.of_below hk)) hB2) hxb (by decide) p u
  · rw [List.pairwise_append, List.pairwise_cons]
    refine ⟨hx.apart.sublist (List.take_sublist _ _), ⟨fun q _ => .inl rfl, hy.apart.sublist (List.drop_sublist _ _)⟩, fun q hq q' hq' => ?_⟩
    rcases List.mem_cons.1 hq' with rfl | hq'
    · exact hnn _
    · rcases hb : q.1.ownBlock with _ | b
      · exact .inl rfl
      · refine .inr (fun e => ?_)
        have h1 := hD q (List.mem_of_mem_take hq) b hb
        have h2 := (row_lt (hy.cells q' (List.mem_of_mem_drop hq')) e.symm).1
        omega
end Go.Proofs.Ytggmjiddadjilao
namespace Go.Proofs.Ytggmjiddadjilao
open Go.RowKit

set_option maxRecDepth 100000 in
set_option maxHeartbeats 2000000 in
theorem insertRow_end (g c n vb : Nat) (xs : List Value) (B : Nat) (w : World) (h : w.ownsRow B 88 2 (.slice (some ⟨g, 0, none⟩) n c) n xs) (hn : n ≤ 8) (hB : B ≤ w.heap.size) (hv : w.heap[vb]? = some (.cells #[.slice none 0 0, .bool false] 88)) :
    Calls Try.prog 69 #[.slice (some ⟨g, 0, none⟩) n c, .int .i64 n, .slice (some ⟨vb, 0, none⟩) 1 1] w fun e w' => ∃ a9 c9, e = .returned (.slice a9 (n + 1) c9) ∧ w'.ownsRow B 88 2 (.slice a9 (n + 1) c9) (n + 1) (xs ++ [.slice none 0 0, .bool false]) ∧ w.grownBy w' (some g) := by
  obtain ⟨i0, hi0, hz0, hz1, hz2⟩ := info_parts infoRown
  have hb : n ≤ c ∧ c ≤ 9223372036854775807 := by
    rcases h.2 with ⟨e, _⟩ | ⟨g', cap', cur, e, hg, hc, a1, a2, a3, a4⟩
    · simp at e
    · simp only [Value.slice.injEq, Option.some.injEq, Addr.mk.injEq, and_true] at e
      obtain ⟨_, _, rfl⟩ := e
      unfold maxLen at a2
      exact ⟨a1, a2⟩
  obtain ⟨hnc, hcm⟩ := hb
  have HO := Hid.intro h
  have HV := Hid.intro hv
  clear h hv
  go_enter Try.func69, Try.ntmps69
  go_wp2_with (at_builtin; refine wpList_append_own _ rfl _ _ 54 rfl B 88 i0 _ 2 32 Try.underlying54 hi0 hz0 hz1 hz2 rfl (by decide) _ _ _ rfl HO.out ⟨vb, 0, none⟩ 1 1 [.slice none 0 0, .bool false] rfl rfl (news_at HV.out) (by simp [Value.oneCell']) (by unfold maxLen; omega) (by omega) hB ?_; intro v' w5 hown' hgrow' _; obtain ⟨a9, c9, rfl, _⟩ := row_form hown')
  all_goals
    go_ret
    exact ⟨a9, c9, rfl, hown', hgrow'⟩
end Go.Proofs.Ytggmjiddadjilao
namespace Go.Proofs.Ytggmjiddadjilao
open Go.RowKit

theorem run_copy_wide {P : Program} (w : World) (dT sT ty elem : TypeId) (sz g o dLen dCap : Nat) (a : Addr) (sLen sCap : Nat) (cur : Array Value) (t : TypeId) (cs : List Value)
    (hu : P.underlying dT = some (.slice elem)) (hs : (P.info? elem).map (·.size) = some sz)
    (hg : w.heap[g]? = some (.cells cur t)) (hn : cs.length = Nat.min sLen dLen * sz)
    (hsrc : ∀ j v, cs[j]? = some v → w.cell? (a.add j) = some v) (hfit : o + cs.length ≤ cur.size) (h1 : ∀ v ∈ cs, v.oneCell' = true) :
    (Builtin.copy_ #[dT, sT] ty #[.slice (some ⟨g, o, none⟩) dLen dCap, .slice (some a) sLen sCap]).run P w =
      .ok (goInt (Nat.min sLen dLen)) (w.setRow g (cur.toList.take o ++ cs ++ cur.toList.drop (o + cs.length)).toArray) := by
  have hst := run_storeCells_at P g o t cs 0 cur w hg (by simpa using hfit) h1
  cases hq : P.info? elem with
  | none => simp [hq] at hs
  | some i =>
    have hi : i.size = sz := by simpa [hq] using hs
    have hl := run_firstCells_some (P := P) w i.size (Nat.min sLen dLen) a sLen sCap cs (by rw [hi]; exact hn) hsrc
    simp [Builtin.copy_, run_underlying hu, Builtin.lenOf, sizeOf, typeInfo, hq, hl, hst]
theorem run_copy_nought {P : Program} (w : World) (dT sT ty elem : TypeId) (sz : Nat) (d a : Option Addr) (dLen dCap sLen sCap : Nat) (hu : P.underlying dT = some (.slice elem)) (hs : (P.info? elem).map (·.size) = some sz) (hn : Nat.min sLen dLen = 0) :
    (Builtin.copy_ #[dT, sT] ty #[.slice d dLen dCap, .slice a sLen sCap]).run P w = .ok (goInt 0) w := by
  cases hq : P.info? elem with
  | none => simp [hq] at hs
  | some i =>
    have hl : ∀ (x : Addr), (loadCells x 0).run P w = .ok #[] w := fun x => by simpa using run_loadCells_list (P := P) w x [] (by simp)
    cases d <;> cases a <;> simp [Builtin.copy_, run_underlying hu, Builtin.lenOf, Builtin.firstCells, sizeOf, typeInfo, hq, hn, storeCells, hl]
end Go.Proofs.Ytggmjiddadjilao
namespace Go.Proofs.Ytggmjiddadjilao
open Go.RowKit

theorem ins_row {α : Type} (C xs : List α) (a b : α) (i n c : Nat) (hx : C.take (n * 2) = xs) (hC : C.length = c * 2) (hi : i < n) (hc : n + 1 ≤ c) (A1 : List α) (hA : A1 = C.take ((i + 1) * 2) ++ xs.drop (i * 2) ++ C.drop ((i + 1) * 2 + (xs.drop (i * 2)).length)) :
    (A1.take (i * 2) ++ [a, b] ++ A1.drop (i * 2 + [a, b].length)).take ((n + 1) * 2) = xs.take (i * 2) ++ [a, b] ++ xs.drop (i * 2) ∧ (A1.take (i * 2) ++ [a, b] ++ A1.drop (i * 2 + [a, b].length)).length = c * 2 ∧ A1.length = c * 2 := by
  have hxl : xs.length = n * 2 := by rw [← hx, List.length_take, hC]; omega
  have e1 : A1.take (i * 2) = xs.take (i * 2) := by
    rw [hA, List.append_assoc, List.take_append_of_le_length (by rw [List.length_take, hC]; omega), List.take_take, ← hx, List.take_take]
    congr 1
    omega
  have e2 : A1.drop (i * 2 + [a, b].length) = xs.drop (i * 2) ++ C.drop ((i + 1) * 2 + (xs.drop (i * 2)).length) := by
    rw [hA, List.append_assoc]
    exact List.drop_left' (by rw [List.length_take, hC]; show _ = i * 2 + 2; omega)
  have hl : A1.length = c * 2 := by
    rw [hA]
    simp only [List.length_append, List.length_take, List.length_drop, hC, hxl]
    omega
  refine ⟨?_, ?_, hl⟩
  · rw [e1, e2, ← List.append_assoc]
    exact List.take_left' (by simp only [List.length_append, List.length_take, List.length_drop, hxl, List.length_cons, List.length_nil]; omega)
  · rw [e1, e2]
    simp only [List.length_append, List.length_take, List.length_drop, hxl, hC, List.length_cons, List.length_nil]
    omega
set_option maxRecDepth 100000 in
set_option maxHeartbeats 4000000 in
theorem insertRow_room (g c n i vb : Nat) (xs : List Value) (B : Nat) (w : World) (h : w.ownsRow B 88 2 (.slice (some ⟨g, 0, none⟩) n c) n xs) (h1x : ∀ u ∈ xs, u.oneCell' = true) (hi : i < n) (hroom : n + 1 ≤ c) (hvg : vb ≠ g) (hv : w.heap[vb]? = some (.cells #[.slice none 0 0, .bool false] 88)) :
    Calls Try.prog 69 #[.slice (some ⟨g, 0, none⟩) n c, .int .i64 i, .slice (some ⟨vb, 0, none⟩) 1 1] w fun e w' => e = .returned (.slice (some ⟨g, 0, none⟩) (n + 1) c) ∧ w'.ownsRow B 88 2 (.slice (some ⟨g, 0, none⟩) (n + 1) c) (n + 1) (xs.take (i * 2) ++ [.slice none 0 0, .bool false] ++ xs.drop (i * 2)) ∧ w.grownBy w' (some g) := by
  obtain ⟨i0, hi0, hz0, hz1, hz2⟩ := info_parts infoRown
  rcases h.2 with ⟨e, _⟩ | ⟨g', cap', cur, e, hg, hc, a1, a2, a3, a4⟩
  · simp at e
  simp only [Value.slice.injEq, Option.some.injEq, Addr.mk.injEq, and_true] at e
  obtain ⟨rfl, _, rfl⟩ := e
  unfold maxLen at a2
  have hxl : xs.length = n * 2 := h.1
  have hsz : (Try.prog.info? 88).map (·.size) = some 2 := by rw [hi0]; simp [hz1]
  have hzs : ∀ w, (Go.sizeOf 88).run Try.prog w = .ok 2 w := fun w => by simp [Go.sizeOf, typeInfo, hi0, hz1]
  have hov : ∀ (W : World), W.heap[g]? = some (.cells cur 88) → W.heap[vb]? = some (.cells #[.slice none 0 0, .bool false] 88) → ∀ o lb cb, (callFunc 94 #[.slice (some ⟨vb, 0, none⟩) 1 1, .slice (some ⟨g, o, none⟩) lb cb]).run Try.prog W = .ok (.value (.bool false)) W := fun W hW1 hW2 o lb cb => by
    rw [run_callFunc_extern Try.func94 (by kernel_rfl) (by kernel_rfl) (by kernel_rfl) (e := Extern.SlicesOverlaps.overlaps #[54, 54] #[4]) (by kernel_rfl),
      Lib.run_overlaps_apart W 54 4 88 Try.underlying54 2 hzs ⟨vb, 0, none⟩ ⟨g, o, none⟩ 1 1 lb cb hvg 88 88 2 (c * 2) (by simp [World.shape?, hW2]) (by simp [World.shape?, hW1, a3]) (by omega) (freeB hW2) (freeB hW2)]
    rfl
  obtain ⟨L1, hL1⟩ : ∃ L1, L1 = cur.toList.take ((i + 1) * 2) ++ xs.drop (i * 2) ++ cur.toList.drop ((i + 1) * 2 + (xs.drop (i * 2)).length) := ⟨_, rfl⟩
  have hCl : cur.toList.length = c * 2 := by rw [Array.length_toList]; exact a3
  obtain ⟨hT, hLn, hL1n⟩ := ins_row cur.toList xs (.slice none 0 0) (.bool false) i n c a4 hCl hi hroom L1 hL1
  have hdl : (xs.drop (i * 2)).length = (n - i) * 2 := by rw [List.length_drop, hxl]; omega
  have hcp1 : ∀ ty dc sc, (Builtin.copy_ #[54, 54] ty #[.slice (some ⟨g, (i + 1) * 2, none⟩) (n - i) dc, .slice (some ⟨g, i * 2, none⟩) (n + 1 - i) sc]).run Try.prog w.drew = .ok (goInt (Nat.min (n + 1 - i) (n - i))) (w.drew.setRow g L1.toArray) := fun ty dc sc => by
    rw [hL1]
    exact run_copy_wide w.drew _ _ ty 88 2 g ((i + 1) * 2) (n - i) dc ⟨g, i * 2, none⟩ (n + 1 - i) sc cur 88 (xs.drop (i * 2)) Try.underlying54 hsz hc (by rw [hdl]; simp only [Nat.min_def]; split <;> omega)
      (fun j v hj => by
        rw [Addr.add_lit, World.cell?_drew, cellB hc]
        rw [List.getElem?_drop, ← a4, List.getElem?_take] at hj
        split at hj
        · rw [← Array.getElem?_toList]; exact hj
        · cases hj)
      (by rw [hdl, a3]; omega) (fun v hv => h1x v (List.mem_of_mem_drop hv))
  obtain ⟨W1, hW1⟩ : ∃ W1, W1 = w.drew.setRow g L1.toArray := ⟨_, rfl⟩
  have hg1 : W1.heap[g]? = some (.cells L1.toArray 88) := by rw [hW1]; exact setRow_heap w.drew g cur _ _ _ hc
  have hv1 : W1.heap[vb]? = some (.cells #[.slice none 0 0, .bool false] 88) := by rw [hW1]; exact (setRow_other w.drew g vb _ hvg).trans hv
  obtain ⟨A2, hA2⟩ : ∃ A2, A2 = (L1.take (i * 2) ++ [Value.slice none 0 0, Value.bool false] ++ L1.drop (i * 2 + 2)).toArray := ⟨_, rfl⟩
  have hcp2 : ∀ (W : World), W.heap = W1.heap → ∀ ty dc, (Builtin.copy_ #[54, 54] ty #[.slice (some ⟨g, i * 2, none⟩) (n + 1 - i) dc, .slice (some ⟨vb, 0, none⟩) 1 1]).run Try.prog W = .ok (goInt (Nat.min 1 (n + 1 - i))) (W.setRow g A2) := fun W hW ty dc => by
    have hgW : W.heap[g]? = some (.cells L1.toArray 88) := by rw [hW]; exact hg1
    have hvW : W.heap[vb]? = some (.cells #[.slice none 0 0, .bool false] 88) := by rw [hW]; exact hv1
    rw [hA2]
    exact run_copy_wide W _ _ ty 88 2 g (i * 2) (n + 1 - i) dc ⟨vb, 0, none⟩ 1 1 L1.toArray 88 [.slice none 0 0, .bool false] Try.underlying54 hsz hgW (by show 2 = _; simp only [Nat.min_def]; split <;> omega) (news_at hvW) (by simp; omega) (by simp [Value.oneCell'])
  have HF : Hid (∀ W : World, W.heap = W1.heap → W.os = w.os → W.tape = w.tape → W.output = w.output → (W.setRow g A2).ownsRow B 88 2 (.slice (some ⟨g, 0, none⟩) (n + 1) c) (n + 1) (xs.take (i * 2) ++ [.slice none 0 0, .bool false] ++ xs.drop (i * 2)) ∧ w.grownBy (W.setRow g A2) (some g)) := fun W hW ho ht hu => by
    have hgW : W.heap[g]? = some (.cells L1.toArray 88) := by rw [hW]; exact hg1
    rw [hA2]
    refine ⟨⟨by rw [← hT, List.length_take, hLn]; omega, .inr ⟨g, c, _, rfl, hg, setRow_heap W g _ _ _ _ hgW, hroom, by unfold maxLen; exact a2, by rw [List.size_toArray]; exact hLn, hT⟩⟩, ⟨ho, ht, hu, ?_, fun k hk hkg => ?_⟩⟩
    · have : W.heap.size = w.heap.size := by rw [hW, hW1]; simp [World.setRow]
      simp [World.setRow, this]
    · rw [setRow_other W g k _ (fun e => hkg (by rw [e])), hW, hW1]
      exact setRow_other w.drew g k _ (fun e => hkg (by rw [e]))
  have hz1' : ¬ ((i : Int) = (n : Int)) := by omega
  have hb2 : ¬ (c = i + 1) := by omega
  have hb4 : ¬ (c = i) := by omega
  have hin : i ≤ n := by omega
  have hb3 : (i : Int) ≤ (n : Int) + 1 := by omega
  have mixed : Try.prog.follows .mixedOrders = true := by kernel_rfl
  have hw1 : IntKind.i64.wrap ((i : Int) + 1) = (i : Int) + 1 := by rw [IntKind.wrap_i64]; omega
  have hb1 : (0 : Int) ≤ (i : Int) + 1 := by omega
  have htn : ((i : Int) + 1).toNat = i + 1 := by omega
  have hb5 : (i : Int) + 1 ≤ (n : Int) + 1 := by omega
  have HO1 := hov w hc hv
  rw [← hW1] at hcp1
  have HOs : Hid (W1.os = w.os) := by show _ = _; rw [hW1]; rfl
  have HTp : Hid (W1.tape = w.tape) := by show _ = _; rw [hW1]; rfl
  have HOu : Hid (W1.output = w.output) := by show _ = _; rw [hW1]; rfl
  clear hA2 hL1 hT hLn hL1n hCl hdl hg1 hv1 hov hc hv a4 h h1x hW1 hzs
  go_enter Try.func69, Try.ntmps69
  go_wp2_with (simp only [HO1])
  go_region_law_o (refine step_copy_runI rfl _ _ 54 54 rfl _ _ (by simp [Act.eval, Act.put]) (by simp [Act.eval, Act.put]) (hcp1 _ _ _) ?_)
  go_wp2_with (at_builtin; refine wpList_copy_runI _ rfl _ _ 54 54 rfl _ _ rfl rfl (hcp2 _ rfl _ _) ?_)
  go_ret
  exact ⟨rfl, HF.out _ rfl HOs.out HTp.out HOu.out⟩
end Go.Proofs.Ytggmjiddadjilao
namespace Go.Proofs.Ytggmjiddadjilao
open Go.RowKit

theorem ins_row2 {α : Type} (R xs : List α) (a b : α) (i n G : Nat) (hx : R.take (i * 2) = xs.take (i * 2)) (hR : R.length = G * 2) (hxl : xs.length = n * 2) (hi : i < n) (hG : n + 1 ≤ G) (A1 : List α) (hA : A1 = R.take (i * 2) ++ [a, b] ++ R.drop (i * 2 + 2)) :
    (A1.take ((i + 1) * 2) ++ xs.drop (i * 2) ++ A1.drop ((i + 1) * 2 + (xs.drop (i * 2)).length)).take ((n + 1) * 2) = xs.take (i * 2) ++ [a, b] ++ xs.drop (i * 2) ∧ (A1.take ((i + 1) * 2) ++ xs.drop (i * 2) ++ A1.drop ((i + 1) * 2 + (xs.drop (i * 2)).length)).length = G * 2 ∧ A1.length = G * 2 := by
  have hl : A1.length = G * 2 := by
    rw [hA]
    simp only [List.length_append, List.length_take, List.length_drop, hR, List.length_cons, List.length_nil]
    omega
  have e1 : A1.take ((i + 1) * 2) = xs.take (i * 2) ++ [a, b] := by
    rw [hA, hx]
    exact List.take_left' (by simp only [List.length_append, List.length_take, hxl, List.length_cons, List.length_nil]; omega)
  refine ⟨?_, ?_, hl⟩
  · rw [e1]
    exact List.take_left' (by simp only [List.length_append, List.length_take, List.length_drop, hxl, List.length_cons, List.length_nil]; omega)
  · simp only [List.length_append, List.length_take, List.length_drop, hxl, hl]
    omega
set_option maxRecDepth 100000 in
set_option maxHeartbeats 4000000 in
theorem insertRow_grow (g c n i vb : Nat) (xs : List Value) (B : Nat) (w : World) (h : w.ownsRow B 88 2 (.slice (some ⟨g, 0, none⟩) n c) n xs) (h1x : ∀ u ∈ xs, u.oneCell' = true) (hi : i < n) (hn8 : n ≤ 8) (hroom : c < n + 1) (hB : B ≤ w.heap.size) (hv : w.heap[vb]? = some (.cells #[.slice none 0 0, .bool false] 88)) :
    Calls Try.prog 69 #[.slice (some ⟨g, 0, none⟩) n c, .int .i64 i, .slice (some ⟨vb, 0, none⟩) 1 1] w fun e w' => ∃ a9 c9, e = .returned (.slice a9 (n + 1) c9) ∧ w'.ownsRow B 88 2 (.slice a9 (n + 1) c9) (n + 1) (xs.take (i * 2) ++ [.slice none 0 0, .bool false] ++ xs.drop (i * 2)) ∧ w.grownBy w' (some g) := by
  obtain ⟨i0, hi0, hz0, hz1, hz2⟩ := info_parts infoRown
  rcases h.2 with ⟨e, _⟩ | ⟨g', cap', cur, e, hg, hc, a1, a2, a3, a4⟩
  · simp at e
  simp only [Value.slice.injEq, Option.some.injEq, Addr.mk.injEq, and_true] at e
  obtain ⟨rfl, _, rfl⟩ := e
  unfold maxLen at a2
  have hxl : xs.length = n * 2 := h.1
  have hsz : (Try.prog.info? 88).map (·.size) = some 2 := by rw [hi0]; simp [hz1]
  have hgl : g < w.heap.size := (Array.getElem?_eq_some_iff.1 hc).1
  have hvl : vb < w.heap.size := (Array.getElem?_eq_some_iff.1 hv).1
  have hcont : ∀ j v, xs[j]? = some v → w.cell? ⟨g, j, none⟩ = some v := fun j v hj => by
    rw [cellB hc]
    rw [← a4, List.getElem?_take] at hj
    split at hj
    · rw [← Array.getElem?_toList]; exact hj
    · cases hj
  have hold : (Builtin.firstCells i0.size i (.slice (some ⟨g, 0, none⟩) i c)).run Try.prog w.drew = .ok (xs.take (i * 2)).toArray w.drew := by
    rw [hz1]
    exact run_firstCells_some w.drew 2 i ⟨g, 0, none⟩ i c (xs.take (i * 2)) (by rw [List.length_take, hxl]; omega) (fun j v hj => by
      rw [Addr.add_lit, Nat.zero_add, World.cell?_drew]
      rw [List.getElem?_take] at hj
      split at hj
      · exact hcont j v hj
      · cases hj)
  have hkk : (n : Int) + 1 - (i : Int) = ((n + 1 - i : Nat) : Int) := by omega
  have hik : i + (n + 1 - i) = n + 1 := by omega
  obtain ⟨G, hG⟩ : ∃ G, G = grownCap w (n + 1) c 88 := ⟨_, rfl⟩
  have hGn : n + 1 ≤ G := by rw [hG]; exact grownCap_ge w _ _ _
  have hG63 : G ≤ 9223372036854775807 := by
    have := grownCap_le_maxLen w (n + 1) c 88 (by unfold maxLen; omega)
    rw [← hG] at this
    unfold maxLen at this
    omega
  obtain ⟨ROW, hROW⟩ : ∃ ROW : Array Value, ROW = (xs.take (i * 2)).toArray ++ Builtin.zeroCells (Value.agg #[.slice none 0 0, .bool false]).cells (n + 1 - i) ++ Builtin.zeroCells (Value.agg #[.slice none 0 0, .bool false]).cells (G - (n + 1)) := ⟨_, rfl⟩
  have hrz : ∀ ty, (Builtin.append_ #[54, 3] ty #[.slice (some ⟨g, 0, none⟩) i c, .int .i64 ((n : Int) + 1 - (i : Int))]).run Try.prog w = .ok (.slice (some ⟨w.heap.size, 0, none⟩) (n + 1) G) (w.drew.alloc (.cells ROW 88)) := fun ty => by
    have h := Lib.run_append_grow_zeros w 54 3 ty 88 i0 _ .i64 .i64 Try.underlying54 Try.underlying3 hi0 hz0 (some ⟨g, 0, none⟩) i c (xs.take (i * 2)) hold (n + 1 - i) (by omega) (by omega) (by omega) (by omega) (by rw [hz2]; omega) (by rw [hz2, hik]; exact growslice_fits hroom (by omega))
    rw [hik] at h
    rw [hkk, hROW, hG]
    exact h
  have hRl : ROW.toList.length = G * 2 := by
    rw [hROW]
    simp [Builtin.zeroCells, Value.cells, hxl]
    omega
  have hRt : ROW.toList.take (i * 2) = xs.take (i * 2) := by
    rw [hROW]
    simp only [Array.toList_append, List.append_assoc]
    exact List.take_left' (by rw [List.length_take, hxl]; omega)
  obtain ⟨L1, hL1⟩ : ∃ L1, L1 = ROW.toList.take (i * 2) ++ [Value.slice none 0 0, Value.bool false] ++ ROW.toList.drop (i * 2 + 2) := ⟨_, rfl⟩
  obtain ⟨hT, hLn, hL1n⟩ := ins_row2 ROW.toList xs (Value.slice none 0 0) (Value.bool false) i n G hRt hRl hxl hi hGn L1 hL1
  obtain ⟨A2, hA2⟩ : ∃ A2, A2 = (L1.take ((i + 1) * 2) ++ xs.drop (i * 2) ++ L1.drop ((i + 1) * 2 + (xs.drop (i * 2)).length)).toArray := ⟨_, rfl⟩
  have hdl : (xs.drop (i * 2)).length = (n - i) * 2 := by rw [List.length_drop, hxl]; omega
  have hcpA : ∀ (W : World), W.heap[w.heap.size]? = some (.cells ROW 88) → W.heap[vb]? = some (.cells #[.slice none 0 0, .bool false] 88) → ∀ ty dc, (Builtin.copy_ #[54, 54] ty #[.slice (some ⟨w.heap.size, i * 2, none⟩) (n + 1 - i) dc, .slice (some ⟨vb, 0, none⟩) 1 1]).run Try.prog W = .ok (goInt (Nat.min 1 (n + 1 - i))) (W.setRow w.heap.size L1.toArray) := fun W hW hWv ty dc => by
    rw [hL1]
    exact run_copy_wide W _ _ ty 88 2 w.heap.size (i * 2) (n + 1 - i) dc ⟨vb, 0, none⟩ 1 1 ROW 88 [.slice none 0 0, .bool false] Try.underlying54 hsz hW (by show 2 = _; simp only [Nat.min_def]; split <;> omega) (news_at hWv) (by rw [← Array.length_toList, hRl]; show i * 2 + 2 ≤ _; omega) (by simp [Value.oneCell'])
  have hcpB : ∀ (W : World), W.heap[w.heap.size]? = some (.cells L1.toArray 88) → W.heap[g]? = some (.cells cur 88) → ∀ ty dc sc, (Builtin.copy_ #[54, 54] ty #[.slice (some ⟨w.heap.size, (i + 1) * 2, none⟩) (n - i) dc, .slice (some ⟨g, i * 2, none⟩) (n - i) sc]).run Try.prog W = .ok (goInt (Nat.min (n - i) (n - i))) (W.setRow w.heap.size A2) := fun W hW hWg ty dc sc => by
    rw [hA2]
    exact run_copy_wide W _ _ ty 88 2 w.heap.size ((i + 1) * 2) (n - i) dc ⟨g, i * 2, none⟩ (n - i) sc L1.toArray 88 (xs.drop (i * 2)) Try.underlying54 hsz hW (by rw [hdl]; simp only [Nat.min_def]; split <;> omega)
      (fun j v hj => by
        rw [Addr.add_lit, cellB hWg, ← cellB (p := i * 2 + j) hc]
        rw [List.getElem?_drop] at hj
        exact hcont _ v hj)
      (by rw [hdl, List.size_toArray, hL1n]; omega) (fun v hv => h1x v (List.mem_of_mem_drop hv))
  have HF : Hid (∀ X : World, X.heap.size = w.heap.size + 1 → X.heap[w.heap.size]? = some (.cells L1.toArray 88) → (∀ k, k < w.heap.size → X.heap[k]? = w.heap[k]?) → X.os = w.os → X.tape = w.tape → X.output = w.output → (X.setRow w.heap.size A2).ownsRow B 88 2 (.slice (some ⟨w.heap.size, 0, none⟩) (n + 1) G) (n + 1) (xs.take (i * 2) ++ [.slice none 0 0, .bool false] ++ xs.drop (i * 2)) ∧ w.grownBy (X.setRow w.heap.size A2) (some g)) := fun X hXs hX hXo ho ht hu => by
    rw [hA2]
    refine ⟨⟨by rw [← hT, List.length_take, hLn]; omega, .inr ⟨w.heap.size, G, _, rfl, hB, setRow_heap X _ _ _ _ _ hX, hGn, by unfold maxLen; exact hG63, by rw [List.size_toArray]; exact hLn, hT⟩⟩, ⟨ho, ht, hu, ?_, fun k hk _ => ?_⟩⟩
    · simp [World.setRow, hXs]
    · rw [setRow_other X w.heap.size k _ (by omega)]
      exact hXo k hk
  have hW1N : (w.alloc (.cells ROW 88)).heap[w.heap.size]? = some (.cells ROW 88) := newestB _ _
  have hW1k : ∀ k, k < w.heap.size → (w.alloc (.cells ROW 88)).heap[k]? = w.heap[k]? := fun k hk => Below.heap_alloc w _ k hk
  have hW2N : ((w.alloc (.cells ROW 88)).drew.setRow w.heap.size L1.toArray).heap[w.heap.size]? = some (.cells L1.toArray 88) := setRow_heap _ _ _ _ _ _ hW1N
  have hW2k : ∀ k, k < w.heap.size → ((w.alloc (.cells ROW 88)).drew.setRow w.heap.size L1.toArray).heap[k]? = w.heap[k]? := fun k hk => (setRow_other _ w.heap.size k _ (by omega)).trans (hW1k k hk)
  have HW1v := Hid.intro ((hW1k vb hvl).trans hv)
  have HW2g := Hid.intro ((hW2k g hgl).trans hc)
  have HW1N := Hid.intro hW1N
  have HW2N := Hid.intro hW2N
  have HW2k := Hid.intro hW2k
  have KA := hcpA ((w.alloc (.cells ROW 88)).drew) HW1N.out HW1v.out
  have KB := hcpB (((w.alloc (.cells ROW 88)).drew.setRow w.heap.size L1.toArray).drew) HW2N.out HW2g.out
  have mixed : Try.prog.follows .mixedOrders = true := by kernel_rfl
  have hw1 : IntKind.i64.wrap ((i : Int) + 1) = (i : Int) + 1 := by rw [IntKind.wrap_i64]; omega
  have hb1 : (0 : Int) ≤ (i : Int) + 1 := by omega
  have htn : ((i : Int) + 1).toNat = i + 1 := by omega
  have hb5 : (i : Int) + 1 ≤ (n : Int) + 1 := by omega
  have hz1' : ¬ ((i : Int) = (n : Int)) := by omega
  have hz3 : (c : Int) < (n : Int) + 1 := by omega
  have hGi : ¬ (G = i) := by omega
  have hGim : ¬ (G = i + 1) := by omega
  have hci : ¬ (c = i) := by omega
  have hin : i ≤ n := by omega
  have hb3 : (i : Int) ≤ (n : Int) := by omega
  clear hcpA hcpB hW1N hW1k hW2N hW2k hL1 hT hLn hL1n hdl hA2 hRt hRl hROW hG hik hkk hold hcont hc hv a4 h h1x
  go_enter Try.func69, Try.ntmps69
  go_wp2_with (first
    | (at_builtin; refine Lib.wpList_append_run _ rfl _ _ _ _ rfl _ _ rfl rfl _ _ (hrz _) ?_)
    | simp only [KA])
  go_region_law_o (refine step_copy_runI rfl _ _ 54 54 rfl _ _ (by simp [Act.eval, Act.put]) (by simp [Act.eval, Act.put]) (KB _ _ _) ?_)
  go_wp2
  go_ret
  exact ⟨_, _, rfl, HF.out _ (by simp [World.setRow]) HW2N.out HW2k.out rfl rfl rfl⟩
/-- slices.Insert of one row without cells, wherever it comes -/
theorem insertRow (g c n i vb : Nat) (xs : List Value) (B : Nat) (w : World) (h : w.ownsRow B 88 2 (.slice (some ⟨g, 0, none⟩) n c) n xs) (h1x : ∀ u ∈ xs, u.oneCell' = true) (hi : i ≤ n) (hn8 : n ≤ 8) (hB : B ≤ w.heap.size) (hvg : vb ≠ g) (hv : w.heap[vb]? = some (.cells #[.slice none 0 0, .bool false] 88)) :
    Calls Try.prog 69 #[.slice (some ⟨g, 0, none⟩) n c, .int .i64 i, .slice (some ⟨vb, 0, none⟩) 1 1] w fun e w' => ∃ a9 c9, e = .returned (.slice a9 (n + 1) c9) ∧ w'.ownsRow B 88 2 (.slice a9 (n + 1) c9) (n + 1) (xs.take (i * 2) ++ [.slice none 0 0, .bool false] ++ xs.drop (i * 2)) ∧ w.grownBy w' (some g) := by
  have hxl : xs.length = n * 2 := h.1
  rcases Nat.lt_or_eq_of_le hi with hi | rfl
  · rcases Nat.lt_or_ge c (n + 1) with hc | hc
    · exact insertRow_grow g c n i vb xs B w h h1x hi hn8 hc hB hv
    · exact (insertRow_room g c n i vb xs B w h h1x hi hc hvg hv).mono (fun e w' ⟨h1, h2, h3⟩ => ⟨_, _, h1, h2, h3⟩)
  · have e1 : xs.take (i * 2) = xs := List.take_of_length_le (by omega)
    have e2 : xs.drop (i * 2) = [] := List.drop_eq_nil_of_le (by omega)
    rw [e1, e2, List.append_nil]
    exact insertRow_end g c i vb xs B w h hn8 hB hv
end Go.Proofs.Ytggmjiddadjilao
