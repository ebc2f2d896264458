/-
  PROVED HERE: what holds between two operations of the four statements of l20AnyTable that draw their order.
-/
import Derived.Test.YtfkfgmfahoeaoamDrawTbl
namespace Go.Proofs.Ytfkfgmfahoeaoam
open Go.RowKit

theorem at3n (n : Nat) (hn : n ≤ 9) (k : Int) (h0 : 0 ≤ k) (h1 : k < 3) : ∃ v : Int, (#[.int .i64 (-1), .int .i64 9, .int .i64 (n : Int)] : Array Value)[k.toNat]? = some (.int .i64 v) ∧ -1 ≤ v ∧ v ≤ 9 := by
  rcases (by omega : k = 0 ∨ k = 1 ∨ k = 2) with rfl | rfl | rfl
  · exact ⟨-1, rfl, by omega, by omega⟩
  · exact ⟨9, rfl, by omega, by omega⟩
  · exact ⟨n, rfl, by omega, by omega⟩
def hdRCnt (L : Nat → Bool) : Nat := (if L 5 = true then 1 else 0)
theorem hdRCnt_le (L : Nat → Bool) : hdRCnt L ≤ 1 := by unfold hdRCnt; (repeat (first | omega | split))
theorem hdRCnt_5 {L : Nat → Bool} (h : L 5 = false) : hdRCnt (upd L 5) = hdRCnt L + 1 := by simp [hdRCnt, upd, h]
theorem hdRCnt_same {L : Nat → Bool} {i : Nat} (h : i ≠ 5) : hdRCnt (upd L i) = hdRCnt L := by
  have k5 : (5 : Nat) ≠ i := fun e => (h) e.symm
  simp [hdRCnt, upd, k5]
structure hdRJ (r B n0 : Nat) (w0 : World) (F : World → Prop) (tb : Nat) (tc : Array Value) (ra : Option Addr) (rn rc : Nat)  (L : Nat → Bool) (w : World) (v33 v34 v35 v36 v37 v38 v39 v40 v41 : Value) : Prop where
  f0 : L 0 = true → v33 = .pointer (some ⟨tb, 3, none⟩)
  f1 : L 1 = true → v34 = .slice ra rn rc
  f2 : L 2 = true → v35 = .int .i64 (rn : Int)
  f3 : L 3 = true → L 9 = false → PB n0 w 3 3 (fun arr => arr = #[.int .i64 (-1), .int .i64 9, .int .i64 (rn : Int)]) v36
  f4 : L 4 = true → v37 = .pointer (some ⟨r, 0, none⟩)
  f5 : L 5 = true → PI 0 2 v38
  f6 : L 6 = true → L 9 = false → PP n0 w 3 (fun arr k => ∃ v : Int, arr[k]? = some (.int .i64 v) ∧ -1 ≤ v ∧ v ≤ 9) v39
  f7 : L 7 = true → PI (-1) 9 v40
  f8 : L 8 = true → v41 = .pointer (some ⟨tb, 1, none⟩)
  rd : Rd w r (B + hdRCnt L)
  bk : Bk r w0 w
  fr : F w
  tb0 : L 9 = false → w.heap[tb]? = some (.cells tc 34)
  tb1 : L 9 = true → ∃ v : Int, (-1 ≤ v ∧ v ≤ 9) ∧ w.heap[tb]? = some (.cells (tc.setIfInBounds 1 (.int .i64 v)) 34)
def hdR (r B n0 : Nat) (w0 : World) (F : World → Prop) (tb : Nat) (tc : Array Value) (ra : Option Addr) (rn rc : Nat)  (mk : Value → Value → Value → Value → Value → Value → Value → Value → Value → Act) (L : Nat → Bool) (a : Act) (w : World) : Prop := ∃ v33 v34 v35 v36 v37 v38 v39 v40 v41 : Value, a = mk v33 v34 v35 v36 v37 v38 v39 v40 v41 ∧ hdRJ r B n0 w0 F tb tc ra rn rc L w v33 v34 v35 v36 v37 v38 v39 v40 v41
def ftRCnt (L : Nat → Bool) : Nat := (if L 5 = true then 1 else 0)
theorem ftRCnt_le (L : Nat → Bool) : ftRCnt L ≤ 1 := by unfold ftRCnt; (repeat (first | omega | split))
theorem ftRCnt_5 {L : Nat → Bool} (h : L 5 = false) : ftRCnt (upd L 5) = ftRCnt L + 1 := by simp [ftRCnt, upd, h]
theorem ftRCnt_same {L : Nat → Bool} {i : Nat} (h : i ≠ 5) : ftRCnt (upd L i) = ftRCnt L := by
  have k5 : (5 : Nat) ≠ i := fun e => (h) e.symm
  simp [ftRCnt, upd, k5]
structure ftRJ (r B n0 : Nat) (w0 : World) (F : World → Prop) (tb : Nat) (tc : Array Value) (ra : Option Addr) (rn rc : Nat)  (L : Nat → Bool) (w : World) (v44 v45 v46 v47 v48 v49 v50 v51 v52 : Value) : Prop where
  f0 : L 0 = true → v44 = .pointer (some ⟨tb, 3, none⟩)
  f1 : L 1 = true → v45 = .slice ra rn rc
  f2 : L 2 = true → v46 = .int .i64 (rn : Int)
  f3 : L 3 = true → L 9 = false → PB n0 w 3 3 (fun arr => arr = #[.int .i64 (-1), .int .i64 9, .int .i64 (rn : Int)]) v47
  f4 : L 4 = true → v48 = .pointer (some ⟨r, 0, none⟩)
  f5 : L 5 = true → PI 0 2 v49
  f6 : L 6 = true → L 9 = false → PP n0 w 3 (fun arr k => ∃ v : Int, arr[k]? = some (.int .i64 v) ∧ -1 ≤ v ∧ v ≤ 9) v50
  f7 : L 7 = true → PI (-1) 9 v51
  f8 : L 8 = true → v52 = .pointer (some ⟨tb, 2, none⟩)
  rd : Rd w r (B + ftRCnt L)
  bk : Bk r w0 w
  fr : F w
  tb0 : L 9 = false → w.heap[tb]? = some (.cells tc 34)
  tb1 : L 9 = true → ∃ v : Int, (-1 ≤ v ∧ v ≤ 9) ∧ w.heap[tb]? = some (.cells (tc.setIfInBounds 2 (.int .i64 v)) 34)
def ftR (r B n0 : Nat) (w0 : World) (F : World → Prop) (tb : Nat) (tc : Array Value) (ra : Option Addr) (rn rc : Nat)  (mk : Value → Value → Value → Value → Value → Value → Value → Value → Value → Act) (L : Nat → Bool) (a : Act) (w : World) : Prop := ∃ v44 v45 v46 v47 v48 v49 v50 v51 v52 : Value, a = mk v44 v45 v46 v47 v48 v49 v50 v51 v52 ∧ ftRJ r B n0 w0 F tb tc ra rn rc L w v44 v45 v46 v47 v48 v49 v50 v51 v52
def acRCnt (L : Nat → Bool) : Nat := (if L 3 = true then 1 else 0) + (if L 6 = true then 1 else 0)
theorem acRCnt_le (L : Nat → Bool) : acRCnt L ≤ 2 := by unfold acRCnt; (repeat (first | omega | split))
theorem acRCnt_3 {L : Nat → Bool} (h : L 3 = false) : acRCnt (upd L 3) = acRCnt L + 1 := by simp [acRCnt, upd, h]; omega
theorem acRCnt_6 {L : Nat → Bool} (h : L 6 = false) : acRCnt (upd L 6) = acRCnt L + 1 := by simp [acRCnt, upd, h]
theorem acRCnt_same {L : Nat → Bool} {i : Nat} (h : i ≠ 3 ∧ i ≠ 6) : acRCnt (upd L i) = acRCnt L := by
  have k3 : (3 : Nat) ≠ i := fun e => (h.1) e.symm
  have k6 : (6 : Nat) ≠ i := fun e => (h.2) e.symm
  simp [acRCnt, upd, k3, k6]
structure acRJ (r B n0 : Nat) (w0 : World) (F : World → Prop) (base : Nat) (U : Value) (nn : Nat) (xs : List Value) (tb : Nat) (tc : Array Value)  (L : Nat → Bool) (w : World) (v63 v64 v65 v66 v67 v68 v69 v70 v71 v72 v73 v74 v75 : Value) : Prop where
  f0 : L 0 = true → v63 = .pointer (some ⟨tb, 0, none⟩)
  f1 : L 1 = true → v64 = U
  f2 : L 2 = true → v65 = .pointer (some ⟨r, 0, none⟩)
  f3 : L 3 = true → PI 0 3 v66
  f4 : L 4 = true → L 11 = false → PB n0 w 3 4 (fun arr => arr = #[.int .i64 (-1), .int .i64 0, .int .i64 61, .int .i64 101]) v67
  f5 : L 5 = true → v68 = .pointer (some ⟨r, 0, none⟩)
  f6 : L 6 = true → PI 0 3 v69
  f7 : L 7 = true → L 11 = false → PP n0 w 3 (fun arr k => ∃ v : Int, arr[k]? = some (.int .i64 v)) v70
  f8 : L 8 = true → ∃ v : Int, v71 = .int .i64 v
  f9 : L 9 = true → ∃ x y : Int, v72 = .agg #[.int .i64 x, .int .i64 y]
  f10 : L 10 = true → L 11 = false → PB n0 w 37 1 (fun arr => ∃ x y : Int, arr = #[.int .i64 x, .int .i64 y]) v73
  f12 : L 12 = true → v75 = .pointer (some ⟨tb, 0, none⟩)
  rd : Rd w r (B + acRCnt L)
  bk : Bk r w0 w
  fr : F w
  own : L 11 = false → w.ownsRow base 37 2 U nn xs
  ownA : L 11 = true → ∃ nw, (∃ p, nw = colVs p) ∧ w.ownsRow base 37 2 v74 (nn + 1) (xs ++ nw)
  tb0 : L 13 = false → w.heap[tb]? = some (.cells tc 34)
  tb1 : L 13 = true → w.heap[tb]? = some (.cells (tc.setIfInBounds (0) v74) 34)
def acR (r B n0 : Nat) (w0 : World) (F : World → Prop) (base : Nat) (U : Value) (nn : Nat) (xs : List Value) (tb : Nat) (tc : Array Value)  (mk : Value → Value → Value → Value → Value → Value → Value → Value → Value → Value → Value → Value → Value → Act) (L : Nat → Bool) (a : Act) (w : World) : Prop := ∃ v63 v64 v65 v66 v67 v68 v69 v70 v71 v72 v73 v74 v75 : Value, a = mk v63 v64 v65 v66 v67 v68 v69 v70 v71 v72 v73 v74 v75 ∧ acRJ r B n0 w0 F base U nn xs tb tc L w v63 v64 v65 v66 v67 v68 v69 v70 v71 v72 v73 v74 v75
def crRCnt (L : Nat → Bool) : Nat := (if L 10 = true then 50 else 0)
theorem crRCnt_le (L : Nat → Bool) : crRCnt L ≤ 50 := by unfold crRCnt; (repeat (first | omega | split))
theorem crRCnt_10 {L : Nat → Bool} (h : L 10 = false) : crRCnt (upd L 10) = crRCnt L + 50 := by simp [crRCnt, upd, h]
theorem crRCnt_same {L : Nat → Bool} {i : Nat} (h : i ≠ 10) : crRCnt (upd L i) = crRCnt L := by
  have k10 : (10 : Nat) ≠ i := fun e => (h) e.symm
  simp [crRCnt, upd, k10]
structure crRJ (r B n0 : Nat) (w0 : World) (F : World → Prop) (base : Nat) (U : Value) (nn : Nat) (xs : List Value) (tb : Nat) (tc : Array Value) (t5 kk rn rc : Nat)  (L : Nat → Bool) (w : World) (v78 v79 v80 v81 v82 v83 v84 v85 v86 v87 v88 v89 v90 v91 v92 : Value) : Prop where
  f0 : L 0 = true → v78 = .pointer (some ⟨t5, 3, none⟩)
  f1 : L 1 = true → v79 = .slice (some ⟨tb, 0, none⟩) rn rc
  f2 : L 2 = true → v80 = .int .i64 (kk : Int)
  f3 : L 3 = true → v81 = .pointer (some ⟨t5, 3, none⟩)
  f4 : L 4 = true → v82 = .slice (some ⟨tb, 0, none⟩) rn rc
  f5 : L 5 = true → v83 = .int .i64 (kk : Int)
  f6 : L 6 = true → v84 = .pointer (some ⟨tb, kk * 2, none⟩)
  f7 : L 7 = true → v85 = .pointer (some ⟨tb, kk * 2, none⟩)
  f8 : L 8 = true → v86 = U
  f9 : L 9 = true → v87 = .pointer (some ⟨r, 0, none⟩)
  f10 : L 10 = true → ∃ x : C, v88 = .agg #[.string x.s, .int .i64 x.c, .int .i64 x.r, .int .i64 x.a1, .int .i64 x.b1, .int .i64 x.a2, .int .i64 x.b2, .int .i64 x.a3, .int .i64 x.b3, .int .i64 x.a4, .int .i64 x.b4] ∧ Cx x
  f11 : L 11 = true → L 12 = false → PB n0 w 45 1 (fun arr => ∃ x : C, arr = (cellVs x).toArray ∧ Cx x) v89
  f13 : L 13 = true → v91 = .pointer (some ⟨tb, kk * 2, none⟩)
  f14 : L 14 = true → v92 = .pointer (some ⟨tb, kk * 2, none⟩)
  rd : Rd w r (B + crRCnt L)
  bk : Bk r w0 w
  fr : F w
  own : L 12 = false → w.ownsRow base 45 11 U nn xs
  ownA : L 12 = true → ∃ nw, (∃ x, nw = cellVs x ∧ Cx x) ∧ w.ownsRow base 45 11 v90 (nn + 1) (xs ++ nw)
  tb0 : L 15 = false → w.heap[tb]? = some (.cells tc 40)
  tb1 : L 15 = true → w.heap[tb]? = some (.cells (tc.setIfInBounds (kk * 2) v90) 40)
def crR (r B n0 : Nat) (w0 : World) (F : World → Prop) (base : Nat) (U : Value) (nn : Nat) (xs : List Value) (tb : Nat) (tc : Array Value) (t5 kk rn rc : Nat)  (mk : Value → Value → Value → Value → Value → Value → Value → Value → Value → Value → Value → Value → Value → Value → Value → Act) (L : Nat → Bool) (a : Act) (w : World) : Prop := ∃ v78 v79 v80 v81 v82 v83 v84 v85 v86 v87 v88 v89 v90 v91 v92 : Value, a = mk v78 v79 v80 v81 v82 v83 v84 v85 v86 v87 v88 v89 v90 v91 v92 ∧ crRJ r B n0 w0 F base U nn xs tb tc t5 kk rn rc L w v78 v79 v80 v81 v82 v83 v84 v85 v86 v87 v88 v89 v90 v91 v92
end Go.Proofs.Ytfkfgmfahoeaoam
