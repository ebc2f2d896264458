/-
  PROVED HERE: lists of numbers in memory, read (IntsAt) or in a block of their own (RowI), for the other texts of this claim. Also: what holds between two operations of the four statements of l20AnyTable that draw their order. Also: small facts on tables of the call's own, for the drawing of any table.
-/
import Derived.Test.YtggmjiddadjilalB4
import Derived.Test.YtggmjiddadjilalB20
import Derived.Test.YtggmjiddadjilalB14
import Derived.Test.YtggmjiddadjilalB15
import Derived.Laws.AppendOwn
namespace Go.Proofs.Ytggmjiddadjilal
open Go.RowKit

/-- a list of numbers that can be read -/
def IntsAt (w : World) (v : Value) (l : List Int) : Prop :=
  ∃ (a : Option Addr) (cap : Nat), v = .slice a l.length cap ∧ l.length ≤ cap ∧ cap ≤ maxLen ∧ ∀ i, i < l.length → ∃ b off, a = some ⟨b, off, none⟩ ∧ b < w.heap.size ∧ w.cell? ⟨b, off + i, none⟩ = some (.int .i64 (l.getD i 0))
theorem IntsAt.form {w : World} {v : Value} {l : List Int} (h : IntsAt w v l) : ∃ a cap, v = .slice a l.length cap ∧ l.length ≤ 9223372036854775807 := by
  obtain ⟨a, cap, hv, h1, h2, _⟩ := h
  unfold maxLen at h2
  exact ⟨a, cap, hv, by omega⟩
theorem IntsAt.get {w : World} {v : Value} {l : List Int} (h : IntsAt w v l) {i : Nat} (hi : i < l.length) :
    ∃ b off cap, v = .slice (some ⟨b, off, none⟩) l.length cap ∧ l.length ≤ cap ∧ cap ≤ maxLen ∧ b < w.heap.size ∧ w.cell? ⟨b, off + i, none⟩ = some (.int .i64 (l.getD i 0)) := by
  obtain ⟨a, cap, hv, h1, h2, h3⟩ := h
  obtain ⟨b, off, rfl, h4, h5⟩ := h3 i hi
  exact ⟨b, off, cap, hv, h1, h2, h4, h5⟩
theorem IntsAt.kept {w w' : World} {v : Value} {l : List Int} (h : IntsAt w v l) (k : Below w.heap.size w w') : IntsAt w' v l := by
  obtain ⟨a, cap, hv, h1, h2, h3⟩ := h
  refine ⟨a, cap, hv, h1, h2, fun i hi => ?_⟩
  obtain ⟨b, off, h4, h5, h6⟩ := h3 i hi
  exact ⟨b, off, h4, Nat.lt_of_lt_of_le h5 k.size, (k.cell (p := ⟨b, off + i, none⟩) h5).trans h6⟩

/-- a list of numbers in a block of its own, at B or behind it, ahead of D -/
def RowI (w : World) (B D : Nat) (v : Value) (l : List Int) : Prop :=
  (v = .slice none 0 0 ∧ l = []) ∨ ∃ g cap cur, v = .slice (some ⟨g, 0, none⟩) l.length cap ∧ B ≤ g ∧ g < D ∧ w.heap[g]? = some (.cells cur 3 (0, 0)) ∧ l.length ≤ cap ∧ cap ≤ maxLen ∧ cur.size = cap ∧ ∀ i, i < l.length → cur[i]? = some (.int .i64 (l.getD i 0))
theorem RowI.of_owns {w : World} {B : Nat} {v : Value} {l : List Int} (h : w.ownsRow B 3 1 v l.length (l.map (Value.int .i64))) : RowI w B w.heap.size v l := by
  rcases h.2 with ⟨hv, h0⟩ | ⟨g, cap, cur, hv, hb, hg, h1, h2, h3, h4⟩
  · exact .inl ⟨hv, List.eq_nil_of_length_eq_zero h0⟩
  · refine .inr ⟨g, cap, cur, hv, hb, (Array.getElem?_eq_some_iff.1 hg).1, hg, h1, h2, by omega, fun i hi => ?_⟩
    have : cur.toList[i]? = (l.map (Value.int .i64))[i]? := by rw [← h4, List.getElem?_take_of_lt (by omega)]
    rw [← Array.getElem?_toList, this]
    simp [List.getD, hi]
theorem RowI.owns {w : World} {B D : Nat} {v : Value} {l : List Int} (h : RowI w B D v l) : w.ownsRow B 3 1 v l.length (l.map (Value.int .i64)) := by
  refine ⟨by simp, ?_⟩
  rcases h with ⟨hv, rfl⟩ | ⟨g, cap, cur, hv, hb, hd, hg, h1, h2, h3, h4⟩
  · exact .inl ⟨hv, rfl⟩
  · refine .inr ⟨g, cap, cur, hv, hb, hg, h1, h2, by omega, ?_⟩
    apply List.ext_getElem?
    intro i
    by_cases hi : i < l.length
    · rw [List.getElem?_take_of_lt (by omega), Array.getElem?_toList, h4 i hi]
      simp [List.getD, hi]
    · rw [List.getElem?_eq_none (by simp; omega), List.getElem?_eq_none (by simp; omega)]
theorem RowI.at {w : World} {B D : Nat} {v : Value} {l : List Int} (h : RowI w B D v l) : IntsAt w v l := by
  rcases h with ⟨rfl, rfl⟩ | ⟨g, cap, cur, hv, hb, hd, hg, h1, h2, h3, h4⟩
  · exact ⟨none, 0, rfl, Nat.le_refl _, Nat.zero_le _, fun i hi => absurd hi (Nat.not_lt_zero _)⟩
  · exact ⟨_, cap, hv, h1, h2, fun i hi => ⟨g, 0, rfl, (Array.getElem?_eq_some_iff.1 hg).1, by rw [Nat.zero_add]; exact (cellB hg).trans (h4 i hi)⟩⟩
theorem RowI.kept {w w' : World} {B D : Nat} {v : Value} {l : List Int} (h : RowI w B D v l) (k : ∀ j, j < w.heap.size → B ≤ j → j < D → w'.heap[j]? = w.heap[j]?) : RowI w' B D v l := by
  rcases h with h | ⟨g, cap, cur, hv, hb, hd, hg, r⟩
  · exact .inl h
  · exact .inr ⟨g, cap, cur, hv, hb, hd, (k g (Array.getElem?_eq_some_iff.1 hg).1 hb hd).trans hg, r⟩
theorem RowI.below {w w' : World} {B D C : Nat} {v : Value} {l : List Int} (h : RowI w B D v l) (k : Below C w w') (hC : D ≤ C) : RowI w' B D v l :=
  h.kept (fun j _ _ h2 => k.block j (Nat.lt_of_lt_of_le h2 hC))
theorem RowI.base {w : World} {B B' D D' : Nat} {v : Value} {l : List Int} (h : RowI w B D v l) (hB : B' ≤ B) (hD : D ≤ D') : RowI w B' D' v l := by
  rcases h with h | ⟨g, cap, cur, hv, hb, hd, r⟩
  · exact .inl h
  · exact .inr ⟨g, cap, cur, hv, Nat.le_trans hB hb, Nat.lt_of_lt_of_le hd hD, r⟩
theorem RowI.form {w : World} {B D : Nat} {v : Value} {l : List Int} (h : RowI w B D v l) : ∃ a cap, v = .slice a l.length cap := by
  rcases h with ⟨rfl, rfl⟩ | ⟨g, cap, cur, hv, _⟩
  · exact ⟨none, 0, rfl⟩
  · exact ⟨_, _, hv⟩
theorem RowI.get {w : World} {B D : Nat} {v : Value} {l : List Int} (h : RowI w B D v l) {i : Nat} (hi : i < l.length) :
    ∃ g cap, v = .slice (some ⟨g, 0, none⟩) l.length cap ∧ B ≤ g ∧ g < D ∧ g < w.heap.size ∧ l.length ≤ cap ∧ cap ≤ maxLen ∧ w.cell? ⟨g, i, none⟩ = some (.int .i64 (l.getD i 0)) ∧ w.frozen? ⟨g, i, none⟩ = false := by
  rcases h with ⟨_, rfl⟩ | ⟨g, cap, cur, hv, hb, hd, hg, h1, h2, h3, h4⟩
  · cases hi
  · exact ⟨g, cap, hv, hb, hd, (Array.getElem?_eq_some_iff.1 hg).1, h1, h2, (cellB hg).trans (h4 i hi), freeB hg⟩
theorem RowI.set {w : World} {B D g cap n : Nat} {l : List Int} (h : RowI w B D (.slice (some ⟨g, 0, none⟩) n cap) l) {i : Nat} (hi : i < l.length) (x : Int) : RowI (w.setCell ⟨g, i, none⟩ (.int .i64 x)) B D (.slice (some ⟨g, 0, none⟩) n cap) (l.set i x) := by
  rcases h with ⟨hv, _⟩ | ⟨g', cap', cur, hv, hb, hd, hg, h1, h2, h3, h4⟩
  · simp at hv
  · simp only [Value.slice.injEq, Option.some.injEq, Addr.mk.injEq, and_true] at hv
    obtain ⟨rfl, rfl, rfl⟩ := hv
    refine .inr ⟨g, cap, cur.setIfInBounds i (.int .i64 x), by simp, hb, hd, setB hg _, by simpa using h1, h2, by simpa using h3, fun j hj => ?_⟩
    rw [List.length_set] at hj
    by_cases e : i = j
    · subst e
      simp [List.getD, hj, show i < cur.size by omega]
    · rw [Array.getElem?_setIfInBounds_ne e, h4 j hj]
      simp [List.getD, e]
theorem RowI.out {w w' : World} {B D B' D' : Nat} {v : Value} {l : List Int} (h : RowI w B D v l) (k : Out B' D' w w') (hd : D ≤ B' ∨ D' ≤ B) : RowI w' B D v l :=
  h.kept (fun j h0 h1 h2 => by rcases hd with hd | hd; exact k.below.block j (by omega); exact k.block j (by omega) h0)
end Go.Proofs.Ytggmjiddadjilal
namespace Go.Proofs.Ytggmjiddadjilal
open Go.RowKit

theorem at3n (n : Nat) (hn : n ≤ 9) (k : Int) (h0 : 0 ≤ k) (h1 : k < 3) : ∃ v : Int, (#[.int .i64 (-1), .int .i64 9, .int .i64 (n : Int)] : Array Value)[k.toNat]? = some (.int .i64 v) ∧ -1 ≤ v ∧ v ≤ 9 := by
  rcases (by omega : k = 0 ∨ k = 1 ∨ k = 2) with rfl | rfl | rfl
  · exact ⟨-1, rfl, by omega, by omega⟩
  · exact ⟨9, rfl, by omega, by omega⟩
  · exact ⟨n, rfl, by omega, by omega⟩
def hdRCnt (L : Nat → Bool) : Nat := (if L 5 = true then 1 else 0)
theorem hdRCnt_le (L : Nat → Bool) : hdRCnt L ≤ 1 := by unfold hdRCnt; (repeat (first | omega | split))
theorem hdRCnt_5 {L : Nat → Bool} (h : L 5 = false) : hdRCnt (upd L 5) = hdRCnt L + 1 := by simp [hdRCnt, upd, h]
theorem hdRCnt_same {L : Nat → Bool} {i : Nat} (h : i ≠ 5) : hdRCnt (upd L i) = hdRCnt L := by
  have k5 : (5 : Nat) ≠ i := fun e => (h) e.symm
  simp [hdRCnt, upd, k5]
structure hdRJ (r B n0 : Nat) (w0 : World) (F : World → Prop) (tb : Nat) (tc : Array Value) (ra : Option Addr) (rn rc : Nat)  (L : Nat → Bool) (w : World) (v33 v34 v35 v36 v37 v38 v39 v40 v41 : Value) : Prop where
  f0 : L 0 = true → v33 = .pointer (some ⟨tb, 3, none⟩)
  f1 : L 1 = true → v34 = .slice ra rn rc
  f2 : L 2 = true → v35 = .int .i64 (rn : Int)
  f3 : L 3 = true → L 9 = false → PB n0 w 3 3 (fun arr => arr = #[.int .i64 (-1), .int .i64 9, .int .i64 (rn : Int)]) v36
  f4 : L 4 = true → v37 = .pointer (some ⟨r, 0, none⟩)
  f5 : L 5 = true → PI 0 2 v38
  f6 : L 6 = true → L 9 = false → PP n0 w 3 (fun arr k => ∃ v : Int, arr[k]? = some (.int .i64 v) ∧ -1 ≤ v ∧ v ≤ 9) v39
  f7 : L 7 = true → PI (-1) 9 v40
  f8 : L 8 = true → v41 = .pointer (some ⟨tb, 1, none⟩)
  rd : Rd w r (B + hdRCnt L)
  bk : Bk r w0 w
  fr : F w
  tb0 : L 9 = false → w.heap[tb]? = some (.cells tc 37)
  tb1 : L 9 = true → ∃ v : Int, (-1 ≤ v ∧ v ≤ 9) ∧ w.heap[tb]? = some (.cells (tc.setIfInBounds 1 (.int .i64 v)) 37)
def hdR (r B n0 : Nat) (w0 : World) (F : World → Prop) (tb : Nat) (tc : Array Value) (ra : Option Addr) (rn rc : Nat)  (mk : Value → Value → Value → Value → Value → Value → Value → Value → Value → Act) (L : Nat → Bool) (a : Act) (w : World) : Prop := ∃ v33 v34 v35 v36 v37 v38 v39 v40 v41 : Value, a = mk v33 v34 v35 v36 v37 v38 v39 v40 v41 ∧ hdRJ r B n0 w0 F tb tc ra rn rc L w v33 v34 v35 v36 v37 v38 v39 v40 v41
def ftRCnt (L : Nat → Bool) : Nat := (if L 5 = true then 1 else 0)
theorem ftRCnt_le (L : Nat → Bool) : ftRCnt L ≤ 1 := by unfold ftRCnt; (repeat (first | omega | split))
theorem ftRCnt_5 {L : Nat → Bool} (h : L 5 = false) : ftRCnt (upd L 5) = ftRCnt L + 1 := by simp [ftRCnt, upd, h]
theorem ftRCnt_same {L : Nat → Bool} {i : Nat} (h : i ≠ 5) : ftRCnt (upd L i) = ftRCnt L := by
  have k5 : (5 : Nat) ≠ i := fun e => (h) e.symm
  simp [ftRCnt, upd, k5]
structure ftRJ (r B n0 : Nat) (w0 : World) (F : World → Prop) (tb : Nat) (tc : Array Value) (ra : Option Addr) (rn rc : Nat)  (L : Nat → Bool) (w : World) (v44 v45 v46 v47 v48 v49 v50 v51 v52 : Value) : Prop where
  f0 : L 0 = true → v44 = .pointer (some ⟨tb, 3, none⟩)
  f1 : L 1 = true → v45 = .slice ra rn rc
  f2 : L 2 = true → v46 = .int .i64 (rn : Int)
  f3 : L 3 = true → L 9 = false → PB n0 w 3 3 (fun arr => arr = #[.int .i64 (-1), .int .i64 9, .int .i64 (rn : Int)]) v47
  f4 : L 4 = true → v48 = .pointer (some ⟨r, 0, none⟩)
  f5 : L 5 = true → PI 0 2 v49
  f6 : L 6 = true → L 9 = false → PP n0 w 3 (fun arr k => ∃ v : Int, arr[k]? = some (.int .i64 v) ∧ -1 ≤ v ∧ v ≤ 9) v50
  f7 : L 7 = true → PI (-1) 9 v51
  f8 : L 8 = true → v52 = .pointer (some ⟨tb, 2, none⟩)
  rd : Rd w r (B + ftRCnt L)
  bk : Bk r w0 w
  fr : F w
  tb0 : L 9 = false → w.heap[tb]? = some (.cells tc 37)
  tb1 : L 9 = true → ∃ v : Int, (-1 ≤ v ∧ v ≤ 9) ∧ w.heap[tb]? = some (.cells (tc.setIfInBounds 2 (.int .i64 v)) 37)
def ftR (r B n0 : Nat) (w0 : World) (F : World → Prop) (tb : Nat) (tc : Array Value) (ra : Option Addr) (rn rc : Nat)  (mk : Value → Value → Value → Value → Value → Value → Value → Value → Value → Act) (L : Nat → Bool) (a : Act) (w : World) : Prop := ∃ v44 v45 v46 v47 v48 v49 v50 v51 v52 : Value, a = mk v44 v45 v46 v47 v48 v49 v50 v51 v52 ∧ ftRJ r B n0 w0 F tb tc ra rn rc L w v44 v45 v46 v47 v48 v49 v50 v51 v52
def acRCnt (L : Nat → Bool) : Nat := (if L 3 = true then 1 else 0) + (if L 6 = true then 1 else 0)
theorem acRCnt_le (L : Nat → Bool) : acRCnt L ≤ 2 := by unfold acRCnt; (repeat (first | omega | split))
theorem acRCnt_3 {L : Nat → Bool} (h : L 3 = false) : acRCnt (upd L 3) = acRCnt L + 1 := by simp [acRCnt, upd, h]; omega
theorem acRCnt_6 {L : Nat → Bool} (h : L 6 = false) : acRCnt (upd L 6) = acRCnt L + 1 := by simp [acRCnt, upd, h]
theorem acRCnt_same {L : Nat → Bool} {i : Nat} (h : i ≠ 3 ∧ i ≠ 6) : acRCnt (upd L i) = acRCnt L := by
  have k3 : (3 : Nat) ≠ i := fun e => (h.1) e.symm
  have k6 : (6 : Nat) ≠ i := fun e => (h.2) e.symm
  simp [acRCnt, upd, k3, k6]
structure acRJ (r B n0 : Nat) (w0 : World) (F : World → Prop) (base : Nat) (U : Value) (nn : Nat) (xs : List Value) (tb : Nat) (tc : Array Value)  (L : Nat → Bool) (w : World) (v63 v64 v65 v66 v67 v68 v69 v70 v71 v72 v73 v74 v75 : Value) : Prop where
  f0 : L 0 = true → v63 = .pointer (some ⟨tb, 0, none⟩)
  f1 : L 1 = true → v64 = U
  f2 : L 2 = true → v65 = .pointer (some ⟨r, 0, none⟩)
  f3 : L 3 = true → PI 0 3 v66
  f4 : L 4 = true → L 11 = false → PB n0 w 3 4 (fun arr => arr = #[.int .i64 (-1), .int .i64 0, .int .i64 61, .int .i64 101]) v67
  f5 : L 5 = true → v68 = .pointer (some ⟨r, 0, none⟩)
  f6 : L 6 = true → PI 0 3 v69
  f7 : L 7 = true → L 11 = false → PP n0 w 3 (fun arr k => ∃ v : Int, arr[k]? = some (.int .i64 v)) v70
  f8 : L 8 = true → ∃ v : Int, v71 = .int .i64 v
  f9 : L 9 = true → ∃ x y : Int, v72 = .agg #[.int .i64 x, .int .i64 y]
  f10 : L 10 = true → L 11 = false → PB n0 w 76 1 (fun arr => ∃ x y : Int, arr = #[.int .i64 x, .int .i64 y]) v73
  f12 : L 12 = true → v75 = .pointer (some ⟨tb, 0, none⟩)
  rd : Rd w r (B + acRCnt L)
  bk : Bk r w0 w
  fr : F w
  own : L 11 = false → w.ownsRow base 76 2 U nn xs
  ownA : L 11 = true → ∃ nw, (∃ p, nw = colVs p) ∧ w.ownsRow base 76 2 v74 (nn + 1) (xs ++ nw)
  tb0 : L 13 = false → w.heap[tb]? = some (.cells tc 37)
  tb1 : L 13 = true → w.heap[tb]? = some (.cells (tc.setIfInBounds (0) v74) 37)
def acR (r B n0 : Nat) (w0 : World) (F : World → Prop) (base : Nat) (U : Value) (nn : Nat) (xs : List Value) (tb : Nat) (tc : Array Value)  (mk : Value → Value → Value → Value → Value → Value → Value → Value → Value → Value → Value → Value → Value → Act) (L : Nat → Bool) (a : Act) (w : World) : Prop := ∃ v63 v64 v65 v66 v67 v68 v69 v70 v71 v72 v73 v74 v75 : Value, a = mk v63 v64 v65 v66 v67 v68 v69 v70 v71 v72 v73 v74 v75 ∧ acRJ r B n0 w0 F base U nn xs tb tc L w v63 v64 v65 v66 v67 v68 v69 v70 v71 v72 v73 v74 v75
def crRCnt (L : Nat → Bool) : Nat := (if L 10 = true then 50 else 0)
theorem crRCnt_le (L : Nat → Bool) : crRCnt L ≤ 50 := by unfold crRCnt; (repeat (first | omega | split))
theorem crRCnt_10 {L : Nat → Bool} (h : L 10 = false) : crRCnt (upd L 10) = crRCnt L + 50 := by simp [crRCnt, upd, h]
theorem crRCnt_same {L : Nat → Bool} {i : Nat} (h : i ≠ 10) : crRCnt (upd L i) = crRCnt L := by
  have k10 : (10 : Nat) ≠ i := fun e => (h) e.symm
  simp [crRCnt, upd, k10]
structure crRJ (r B n0 : Nat) (w0 : World) (F : World → Prop) (base : Nat) (U : Value) (nn : Nat) (xs : List Value) (tb : Nat) (tc : Array Value) (t5 kk rn rc : Nat)  (L : Nat → Bool) (w : World) (v78 v79 v80 v81 v82 v83 v84 v85 v86 v87 v88 v89 v90 v91 v92 : Value) : Prop where
  f0 : L 0 = true → v78 = .pointer (some ⟨t5, 3, none⟩)
  f1 : L 1 = true → v79 = .slice (some ⟨tb, 0, none⟩) rn rc
  f2 : L 2 = true → v80 = .int .i64 (kk : Int)
  f3 : L 3 = true → v81 = .pointer (some ⟨t5, 3, none⟩)
  f4 : L 4 = true → v82 = .slice (some ⟨tb, 0, none⟩) rn rc
  f5 : L 5 = true → v83 = .int .i64 (kk : Int)
  f6 : L 6 = true → v84 = .pointer (some ⟨tb, kk * 2, none⟩)
  f7 : L 7 = true → v85 = .pointer (some ⟨tb, kk * 2, none⟩)
  f8 : L 8 = true → v86 = U
  f9 : L 9 = true → v87 = .pointer (some ⟨r, 0, none⟩)
  f10 : L 10 = true → ∃ x : C, v88 = .agg #[.string x.s, .int .i64 x.c, .int .i64 x.r, .int .i64 x.a1, .int .i64 x.b1, .int .i64 x.a2, .int .i64 x.b2, .int .i64 x.a3, .int .i64 x.b3, .int .i64 x.a4, .int .i64 x.b4] ∧ Cx x
  f11 : L 11 = true → L 12 = false → PB n0 w 29 1 (fun arr => ∃ x : C, arr = (cellVs x).toArray ∧ Cx x) v89
  f13 : L 13 = true → v91 = .pointer (some ⟨tb, kk * 2, none⟩)
  f14 : L 14 = true → v92 = .pointer (some ⟨tb, kk * 2, none⟩)
  rd : Rd w r (B + crRCnt L)
  bk : Bk r w0 w
  fr : F w
  own : L 12 = false → w.ownsRow base 29 11 U nn xs
  ownA : L 12 = true → ∃ nw, (∃ x, nw = cellVs x ∧ Cx x) ∧ w.ownsRow base 29 11 v90 (nn + 1) (xs ++ nw)
  tb0 : L 15 = false → w.heap[tb]? = some (.cells tc 51)
  tb1 : L 15 = true → w.heap[tb]? = some (.cells (tc.setIfInBounds (kk * 2) v90) 51)
def crR (r B n0 : Nat) (w0 : World) (F : World → Prop) (base : Nat) (U : Value) (nn : Nat) (xs : List Value) (tb : Nat) (tc : Array Value) (t5 kk rn rc : Nat)  (mk : Value → Value → Value → Value → Value → Value → Value → Value → Value → Value → Value → Value → Value → Value → Value → Act) (L : Nat → Bool) (a : Act) (w : World) : Prop := ∃ v78 v79 v80 v81 v82 v83 v84 v85 v86 v87 v88 v89 v90 v91 v92 : Value, a = mk v78 v79 v80 v81 v82 v83 v84 v85 v86 v87 v88 v89 v90 v91 v92 ∧ crRJ r B n0 w0 F base U nn xs tb tc t5 kk rn rc L w v78 v79 v80 v81 v82 v83 v84 v85 v86 v87 v88 v89 v90 v91 v92
end Go.Proofs.Ytggmjiddadjilal
namespace Go.Proofs.Ytggmjiddadjilal
open Go.RowKit

/-- the answer's form -/
def AnyPost (r B : Nat) (w : World) (e : Ending) (w' : World) : Prop :=
  ∃ (ac ar : Option Addr) (cc cr : Nat) (t : T), e = .returned (.agg #[.slice ac t.cols.length cc, .int .i64 t.head, .int .i64 t.foot, .slice ar t.rows.length cr, .int .i64 t.gap]) ∧ Drawn t ∧ ColsAt w' w.heap.size (.slice ac t.cols.length cc) t.cols ∧ RowsAt w' w.heap.size (.slice ar t.rows.length cr) t.rows ∧ Rd w' r (B + 3000) ∧ Bk r w w'

theorem own_st5' {w : World} {base g : Nat} {cur : Array Value} {vc vr : Value} {ps : List (Int × Int)} {ur : List (Value × R)} (h1 : OwnCol w base vc ps) (h2 : w.ownsRow base 51 2 vr ur.length (ur.flatMap rowVs)) (h3 : ∀ p ∈ ur, OwnC w base p.1 p.2.cells) (hg : w.heap[g]? = some (.cells cur 37)) (y0 y1 y2 y3 y4 : Value) :
    OwnCol (st5 w g y0 y1 y2 y3 y4) base vc ps ∧ (st5 w g y0 y1 y2 y3 y4).ownsRow base 51 2 vr ur.length (ur.flatMap rowVs) ∧ ∀ p ∈ ur, OwnC (st5 w g y0 y1 y2 y3 y4) base p.1 p.2.cells := by
  have ho : Off base (some g) none w (st5 w g y0 y1 y2 y3 y4) := Off.ofBk (st5_bk w g y0 y1 y2 y3 y4)
  have hnn : ∀ x : Value, x.ownBlock = none ∨ x.ownBlock ≠ none := fun x => by cases x.ownBlock <;> simp
  exact ⟨row_off h1 ho (Nat.le_refl _) (row_ne_block h1 hg (by decide)) (hnn _), row_off h2 ho (Nat.le_refl _) (row_ne_block h2 hg (by decide)) (hnn _), fun p hp => row_off (h3 p hp) ho (Nat.le_refl _) (row_ne_block (h3 p hp) hg (by decide)) (hnn _)⟩
theorem AnyPost.mk' {r B : Nat} {w w' : World} {ac ar : Option Addr} {cc cr : Nat} {ps : List (Int × Int)} {ur : List (Value × R)} {hd ft gp : Int} (hD : Drawn ⟨ps, hd, ft, ur.map (·.2), gp⟩) (h1 : ColsAt w' w.heap.size (.slice ac ps.length cc) ps) (h2 : RowsAt w' w.heap.size (.slice ar ur.length cr) (ur.map (·.2)))
    (h3 : Rd w' r (B + 3000)) (h4 : Bk r w w') : AnyPost r B w (.returned (.agg #[.slice ac ps.length cc, .int .i64 hd, .int .i64 ft, .slice ar ur.length cr, .int .i64 gp])) w' :=
  ⟨ac, ar, cc, cr, ⟨ps, hd, ft, ur.map (·.2), gp⟩, by simp, hD, h1, by simpa using h2, h3, h4⟩

/-- what stays of a table while a number of it is written -/
def FA (w : World) (vc vr : Value) (ps : List (Int × Int)) (ur : List (Value × R)) (W : World) : Prop := OwnCol W w.heap.size vc ps ∧ OwnR W w.heap.size vr ur ∧ W.heap[w.heap.size]? = some (.cells #[.slice none 0 0, .int .i64 0, .int .i64 0, .slice none 0 0, .int .i64 0] 37)
def FB (w : World) (vr : Value) (ur : List (Value × R)) (W : World) : Prop := OwnR W w.heap.size vr ur ∧ W.heap[w.heap.size]? = some (.cells #[.slice none 0 0, .int .i64 0, .int .i64 0, .slice none 0 0, .int .i64 0] 37)
theorem nn' (x : Value) : x.ownBlock = none ∨ x.ownBlock ≠ none := by cases x.ownBlock <;> simp
theorem FA.stays {w : World} {tb : Nat} {vc vr : Value} {ps : List (Int × Int)} {ur : List (Value × R)} (hz : w.heap.size < tb) (h1 : vc.ownBlock = none ∨ vc.ownBlock ≠ some tb) (h2 : vr.ownBlock = none ∨ vr.ownBlock ≠ some tb) (h3 : ∀ p ∈ ur, p.1.ownBlock = none ∨ p.1.ownBlock ≠ some tb) : Stays w.heap.size tb (.slice none 0 0) (FA w vc vr ps ur) :=
  fun _ _ ⟨a1, a2, a3⟩ ho => ⟨row_off a1 ho (Nat.le_refl _) h1 (nn' _), a2.off ho (Nat.le_refl _) h2 (nn' _) (fun p hp => ⟨h3 p hp, nn' _⟩), (ho.block _ (Nat.le_refl _) (Array.getElem?_eq_some_iff.1 a3).1 (by simp; omega) (by simp [Value.ownBlock])).trans a3⟩
theorem FB.stays {w : World} {tb : Nat} {vc vr : Value} {ur : List (Value × R)} (hz : w.heap.size < tb) (h2 : vr.ownBlock = none ∨ vr.ownBlock ≠ some tb) (h3 : ∀ p ∈ ur, p.1.ownBlock = none ∨ p.1.ownBlock ≠ some tb) (h4 : vr.ownBlock = none ∨ vr.ownBlock ≠ vc.ownBlock) (h5 : ∀ p ∈ ur, p.1.ownBlock = none ∨ p.1.ownBlock ≠ vc.ownBlock) (h6 : some w.heap.size ≠ vc.ownBlock) : Stays w.heap.size tb vc (FB w vr ur) :=
  fun _ _ ⟨a2, a3⟩ ho => ⟨a2.off ho (Nat.le_refl _) h2 h4 (fun p hp => ⟨h3 p hp, h5 p hp⟩), (ho.block _ (Nat.le_refl _) (Array.getElem?_eq_some_iff.1 a3).1 (by simp; omega) h6).trans a3⟩
/-- what stays of a table while a cell is put behind those of one of its rows -/
def FC (w : World) (t5 : Nat) (tc : Array Value) (vc : Value) (ps : List (Int × Int)) (ur : List (Value × R)) (kk : Nat) (W : World) : Prop :=
  W.heap[t5]? = some (.cells tc 37) ∧ OwnCol W w.heap.size vc ps ∧ W.heap[w.heap.size]? = some (.cells #[.slice none 0 0, .int .i64 0, .int .i64 0, .slice none 0 0, .int .i64 0] 37) ∧ ∀ i (hi : i < ur.length), i ≠ kk → OwnC W w.heap.size ur[i].1 ur[i].2.cells
theorem FC.stays {w : World} {t5 rb : Nat} {tc : Array Value} {vc u : Value} {ps : List (Int × Int)} {ur : List (Value × R)} {kk : Nat} (ht : w.heap.size ≤ t5) (h1 : some t5 ≠ some rb) (h2 : some t5 ≠ u.ownBlock) (h3 : vc.ownBlock = none ∨ vc.ownBlock ≠ some rb) (h4 : vc.ownBlock = none ∨ vc.ownBlock ≠ u.ownBlock)
    (h5 : some w.heap.size ≠ some rb) (h6 : some w.heap.size ≠ u.ownBlock) (h7 : ∀ i (hi : i < ur.length), i ≠ kk → OffV ur[i].1 (some rb) u.ownBlock) : Stays w.heap.size rb u (FC w t5 tc vc ps ur kk) :=
  fun _ _ ⟨a1, a2, a3, a4⟩ ho => ⟨(ho.block _ ht (Array.getElem?_eq_some_iff.1 a1).1 h1 h2).trans a1, row_off a2 ho (Nat.le_refl _) h3 h4, (ho.block _ (Nat.le_refl _) (Array.getElem?_eq_some_iff.1 a3).1 h5 h6).trans a3, fun i hi hk => row_off (a4 i hi hk) ho (Nat.le_refl _) (h7 i hi hk).1 (h7 i hi hk).2⟩
theorem flat_set2 (v : Value) (cs : List C) : ∀ (l : List (Value × R)) (k : Nat) (hk : k < l.length), (l.set k (v, ⟨cs, l[k].2.whole⟩)).flatMap rowVs = (l.flatMap rowVs).set (k * 2) v
  | a :: t, 0, _ => by simp [rowVs]
  | a :: t, k + 1, hk => by
    have ih := flat_set2 v cs t k (by simpa using hk)
    have e : (k + 1) * 2 = k * 2 + 2 := by omega
    simp only [List.set_cons_succ, List.flatMap_cons, List.getElem_cons_succ]
    rw [ih, e]
    simp [rowVs]
/-- two rows of a table have no block of cells in common -/
theorem OwnR.other {w : World} {base : Nat} {v : Value} {ur : List (Value × R)} (h : OwnR w base v ur) {i k : Nat} (hi : i < ur.length) (hk : k < ur.length) (hne : i ≠ k) : ur[i].1.ownBlock = none ∨ ur[i].1.ownBlock ≠ ur[k].1.ownBlock := by
  have hp := List.pairwise_iff_getElem.1 h.apart
  rcases Nat.lt_or_gt_of_ne hne with h1 | h1
  · exact hp i k hi hk h1
  · rcases hp k i hk hi h1 with h2 | h2
    · rw [h2]
      cases ur[i].1.ownBlock <;> simp
    · exact .inr (fun e => h2 e.symm)
/-- a cell more in one row -/
theorem more_cell {w : World} {base rb cap kk : Nat} {cur : Array Value} {ur : List (Value × R)} {v : Value} {x : C} (hk : kk < ur.length) (hb : base ≤ rb) (hn : ur.length ≤ cap) (hcm : cap ≤ maxLen) (hc : cur.size = cap * 2) (ht : cur.toList.take (ur.length * 2) = ur.flatMap rowVs)
    (hT : w.heap[rb]? = some (.cells (cur.setIfInBounds (kk * 2) v) 51)) (hO : OwnC w base v (ur[kk].2.cells ++ [x])) (hothers : ∀ i (hi : i < ur.length), i ≠ kk → OwnC w base ur[i].1 ur[i].2.cells) :
    w.ownsRow base 51 2 (.slice (some ⟨rb, 0, none⟩) (ur.set kk (v, ⟨ur[kk].2.cells ++ [x], ur[kk].2.whole⟩)).length cap) (ur.set kk (v, ⟨ur[kk].2.cells ++ [x], ur[kk].2.whole⟩)).length ((ur.set kk (v, ⟨ur[kk].2.cells ++ [x], ur[kk].2.whole⟩)).flatMap rowVs) ∧ ∀ p ∈ ur.set kk (v, ⟨ur[kk].2.cells ++ [x], ur[kk].2.whole⟩), OwnC w base p.1 p.2.cells := by
  refine ⟨⟨flat_len rowVs 2 (fun _ => rfl) _, .inr ⟨rb, cap, _, rfl, hb, hT, by rw [List.length_set]; exact hn, hcm, by rw [Array.size_setIfInBounds]; exact hc, ?_⟩⟩, fun p hp => ?_⟩
  · rw [flat_set2, List.length_set, Array.toList_setIfInBounds, List.take_set, ht]
  · obtain ⟨i, hi, rfl⟩ := List.mem_iff_getElem.1 hp
    rw [List.length_set] at hi
    by_cases h : kk = i
    · subst h
      rw [List.getElem_set_self]
      exact hO
    · rw [List.getElem_set_ne h]
      exact hothers i hi (fun e => h e.symm)
theorem more_facts {kk : Nat} {ur : List (Value × R)} {v : Value} {x : C} (hk : kk < ur.length) (hs : ∀ p ∈ ur, p.2.cells.length ≤ 4 ∧ ∀ x ∈ p.2.cells, Cx x) (hx : Cx x) :
    (∀ p ∈ ur.set kk (v, ⟨ur[kk].2.cells ++ [x], ur[kk].2.whole⟩), ∀ y ∈ p.2.cells, Cx y) ∧ ∃ k, ∀ i, (((ur.set kk (v, ⟨ur[kk].2.cells ++ [x], ur[kk].2.whole⟩)).map (·.2)).getD i dR).cells.length ≤ if i = k then 5 else 4 := by
  constructor
  · intro p hp y hy
    obtain ⟨i, hi, rfl⟩ := List.mem_iff_getElem.1 hp
    rw [List.length_set] at hi
    by_cases h : kk = i
    · subst h
      rw [List.getElem_set_self] at hy
      rcases List.mem_append.1 hy with hy | hy
      · exact (hs _ (List.getElem_mem hk)).2 y hy
      · simp at hy
        subst hy
        exact hx
    · rw [List.getElem_set_ne h] at hy
      exact (hs _ (List.getElem_mem hi)).2 y hy
  · refine ⟨kk, fun i => ?_⟩
    by_cases hi : i < ur.length
    · rw [getD_get dR (by simpa using hi), List.getElem_map]
      by_cases h : kk = i
      · subst h
        rw [List.getElem_set_self, if_pos rfl]
        have := (hs _ (List.getElem_mem hk)).1
        simp
        omega
      · rw [List.getElem_set_ne h, if_neg (fun e => h e.symm)]
        exact (hs _ (List.getElem_mem hi)).1
    · simp [List.getD, hi, dR]

end Go.Proofs.Ytggmjiddadjilal
