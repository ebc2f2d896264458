/-
  PROVED HERE: what holds between two operations of the two statements of l20Table that draw their order.
-/
import Derived.Test.YtfkfgmfahoeaoamDrawCell
import Derived.Test.YtfkfgmfahoeaoamAnyReg
namespace Go.Proofs.Ytfkfgmfahoeaoam
open Go.RowKit

/-- what is known of a cell that was drawn -/
def Cx (x : C) : Prop := x.s.size ≤ 61 ∧ (x.r ≤ 3 ∨ x.r = 5)
theorem pair4 (a b k : Int) (h0 : 0 ≤ k) (h1 : k < 4) : ∃ x y : Int, (#[.int .i64 0, .int .i64 0, .int .i64 0, .int .i64 0, .int .i64 1, .int .i64 a, .int .i64 2, .int .i64 b] : Array Value)[k.toNat * 2]? = some (.int .i64 x) ∧ (#[.int .i64 0, .int .i64 0, .int .i64 0, .int .i64 0, .int .i64 1, .int .i64 a, .int .i64 2, .int .i64 b] : Array Value)[k.toNat * 2 + 1]? = some (.int .i64 y) := by
  rcases (by omega : k = 0 ∨ k = 1 ∨ k = 2 ∨ k = 3) with rfl | rfl | rfl | rfl
  · exact ⟨0, 0, rfl, rfl⟩
  · exact ⟨0, 0, rfl, rfl⟩
  · exact ⟨1, a, rfl, rfl⟩
  · exact ⟨2, b, rfl, rfl⟩
theorem infoCol : (Try.prog.info? 37).map (fun i => (i.zero, i.size, i.bytes)) = some (some (Value.agg #[.int .i64 0, .int .i64 0]), 2, 16) := by kernel_rfl
theorem infoCell : (Try.prog.info? 45).map (fun i => (i.zero, i.size, i.bytes)) = some (some (Value.agg #[.string ⟨#[]⟩, .int .i64 0, .int .i64 0, .int .i64 0, .int .i64 0, .int .i64 0, .int .i64 0, .int .i64 0, .int .i64 0, .int .i64 0, .int .i64 0]), 11, 96) := by kernel_rfl
theorem infoRow : (Try.prog.info? 40).map (fun i => (i.zero, i.size, i.bytes)) = some (some (Value.agg #[.slice none 0 0, .bool false]), 2, 32) := by kernel_rfl
def colRCnt (L : Nat → Bool) : Nat := (if L 5 = true then 1 else 0) + (if L 9 = true then 1 else 0) + (if L 15 = true then 1 else 0)
theorem colRCnt_le (L : Nat → Bool) : colRCnt L ≤ 3 := by unfold colRCnt; (repeat (first | omega | split))
theorem colRCnt_5 {L : Nat → Bool} (h : L 5 = false) : colRCnt (upd L 5) = colRCnt L + 1 := by simp [colRCnt, upd, h]; omega
theorem colRCnt_9 {L : Nat → Bool} (h : L 9 = false) : colRCnt (upd L 9) = colRCnt L + 1 := by simp [colRCnt, upd, h]; omega
theorem colRCnt_15 {L : Nat → Bool} (h : L 15 = false) : colRCnt (upd L 15) = colRCnt L + 1 := by simp [colRCnt, upd, h]
theorem colRCnt_same {L : Nat → Bool} {i : Nat} (h : i ≠ 5 ∧ i ≠ 9 ∧ i ≠ 15) : colRCnt (upd L i) = colRCnt L := by
  have k5 : (5 : Nat) ≠ i := fun e => (h.1) e.symm
  have k9 : (9 : Nat) ≠ i := fun e => (h.2.1) e.symm
  have k15 : (15 : Nat) ≠ i := fun e => (h.2.2) e.symm
  simp [colRCnt, upd, k5, k9, k15]
structure colRJ (r B n0 : Nat) (w0 : World) (F : World → Prop) (base : Nat) (U : Value) (nn : Nat) (xs : List Value) (tb : Nat) (tc : Array Value)  (L : Nat → Bool) (w : World) (v18 v19 v20 v21 v22 v23 v24 v25 v26 v27 v28 v29 v30 v31 v32 v33 v34 v35 v36 v37 v38 : Value) : Prop where
  f0 : L 0 = true → v18 = .pointer (some ⟨tb, 0, none⟩)
  f1 : L 1 = true → v19 = U
  f2 : L 2 = true → v20 = .agg #[.int .i64 0, .int .i64 0]
  f3 : L 3 = true → v21 = .agg #[.int .i64 0, .int .i64 0]
  f4 : L 4 = true → v22 = .pointer (some ⟨r, 0, none⟩)
  f5 : L 5 = true → PI 0 29 v23
  f6 : L 6 = true → ∃ k : Int, v24 = .agg #[.int .i64 1, .int .i64 k]
  f7 : L 7 = true → L 19 = false → PB n0 w 3 4 (fun arr => arr = #[.int .i64 10, .int .i64 25, .int .i64 50, .int .i64 100]) v25
  f8 : L 8 = true → v26 = .pointer (some ⟨r, 0, none⟩)
  f9 : L 9 = true → PI 0 3 v27
  f10 : L 10 = true → L 19 = false → PP n0 w 3 (fun arr k => ∃ v : Int, arr[k]? = some (.int .i64 v)) v28
  f11 : L 11 = true → ∃ v : Int, v29 = .int .i64 v
  f12 : L 12 = true → ∃ v : Int, v30 = .agg #[.int .i64 2, .int .i64 v]
  f13 : L 13 = true → L 19 = false → PB n0 w 37 4 (fun arr => ∃ a b : Int, arr = #[.int .i64 0, .int .i64 0, .int .i64 0, .int .i64 0, .int .i64 1, .int .i64 a, .int .i64 2, .int .i64 b]) v31
  f14 : L 14 = true → v32 = .pointer (some ⟨r, 0, none⟩)
  f15 : L 15 = true → PI 0 3 v33
  f16 : L 16 = true → L 19 = false → PP n0 w 37 (fun arr k => ∃ x y : Int, arr[k]? = some (.int .i64 x) ∧ arr[k + 1]? = some (.int .i64 y)) v34
  f17 : L 17 = true → ∃ x y : Int, v35 = .agg #[.int .i64 x, .int .i64 y]
  f18 : L 18 = true → L 19 = false → PB n0 w 37 1 (fun arr => ∃ x y : Int, arr = #[.int .i64 x, .int .i64 y]) v36
  f20 : L 20 = true → v38 = .pointer (some ⟨tb, 0, none⟩)
  rd : Rd w r (B + colRCnt L)
  bk : Bk r w0 w
  fr : F w
  own : L 19 = false → w.ownsRow base 37 2 U nn xs
  ownA : L 19 = true → ∃ nw, (∃ p, nw = colVs p) ∧ w.ownsRow base 37 2 v37 (nn + 1) (xs ++ nw)
  tb0 : L 21 = false → w.heap[tb]? = some (.cells tc 34)
  tb1 : L 21 = true → w.heap[tb]? = some (.cells (tc.setIfInBounds (0) v37) 34)
def colR (r B n0 : Nat) (w0 : World) (F : World → Prop) (base : Nat) (U : Value) (nn : Nat) (xs : List Value) (tb : Nat) (tc : Array Value)  (mk : Value → Value → Value → Value → Value → Value → Value → Value → Value → Value → Value → Value → Value → Value → Value → Value → Value → Value → Value → Value → Value → Act) (L : Nat → Bool) (a : Act) (w : World) : Prop := ∃ v18 v19 v20 v21 v22 v23 v24 v25 v26 v27 v28 v29 v30 v31 v32 v33 v34 v35 v36 v37 v38 : Value, a = mk v18 v19 v20 v21 v22 v23 v24 v25 v26 v27 v28 v29 v30 v31 v32 v33 v34 v35 v36 v37 v38 ∧ colRJ r B n0 w0 F base U nn xs tb tc L w v18 v19 v20 v21 v22 v23 v24 v25 v26 v27 v28 v29 v30 v31 v32 v33 v34 v35 v36 v37 v38
def rowRCnt (L : Nat → Bool) : Nat := (if L 3 = true then 50 else 0)
theorem rowRCnt_le (L : Nat → Bool) : rowRCnt L ≤ 50 := by unfold rowRCnt; (repeat (first | omega | split))
theorem rowRCnt_3 {L : Nat → Bool} (h : L 3 = false) : rowRCnt (upd L 3) = rowRCnt L + 50 := by simp [rowRCnt, upd, h]
theorem rowRCnt_same {L : Nat → Bool} {i : Nat} (h : i ≠ 3) : rowRCnt (upd L i) = rowRCnt L := by
  have k3 : (3 : Nat) ≠ i := fun e => (h) e.symm
  simp [rowRCnt, upd, k3]
structure rowRJ (r B n0 : Nat) (w0 : World) (F : World → Prop) (base : Nat) (U : Value) (nn : Nat) (xs : List Value) (tb : Nat) (tc : Array Value)  (L : Nat → Bool) (w : World) (v57 v58 v59 v60 v61 v62 v63 : Value) : Prop where
  f0 : L 0 = true → v57 = .pointer (some ⟨tb, 0, none⟩)
  f1 : L 1 = true → v58 = U
  f2 : L 2 = true → v59 = .pointer (some ⟨r, 0, none⟩)
  f3 : L 3 = true → ∃ x : C, v60 = .agg #[.string x.s, .int .i64 x.c, .int .i64 x.r, .int .i64 x.a1, .int .i64 x.b1, .int .i64 x.a2, .int .i64 x.b2, .int .i64 x.a3, .int .i64 x.b3, .int .i64 x.a4, .int .i64 x.b4] ∧ Cx x
  f4 : L 4 = true → L 5 = false → PB n0 w 45 1 (fun arr => ∃ x : C, arr = (cellVs x).toArray ∧ Cx x) v61
  f6 : L 6 = true → v63 = .pointer (some ⟨tb, 0, none⟩)
  rd : Rd w r (B + rowRCnt L)
  bk : Bk r w0 w
  fr : F w
  own : L 5 = false → w.ownsRow base 45 11 U nn xs
  ownA : L 5 = true → ∃ nw, (∃ x, nw = cellVs x ∧ Cx x) ∧ w.ownsRow base 45 11 v62 (nn + 1) (xs ++ nw)
  tb0 : L 7 = false → w.heap[tb]? = some (.cells tc 40)
  tb1 : L 7 = true → w.heap[tb]? = some (.cells (tc.setIfInBounds (0) v62) 40)
def rowR (r B n0 : Nat) (w0 : World) (F : World → Prop) (base : Nat) (U : Value) (nn : Nat) (xs : List Value) (tb : Nat) (tc : Array Value)  (mk : Value → Value → Value → Value → Value → Value → Value → Act) (L : Nat → Bool) (a : Act) (w : World) : Prop := ∃ v57 v58 v59 v60 v61 v62 v63 : Value, a = mk v57 v58 v59 v60 v61 v62 v63 ∧ rowRJ r B n0 w0 F base U nn xs tb tc L w v57 v58 v59 v60 v61 v62 v63
end Go.Proofs.Ytfkfgmfahoeaoam
