/-
  PROVED HERE: the laws' own eqTblTable and what it calls say true of one and the same table in two places; nothing that was in memory is turned. Also: what is as it was but the blocks from one number on up to another one. Also: what the laws' own markText and markTblCellS answer: cells that own their memory are marked with numbers, one behind the other; nothing else that was in memory is turned.
-/
import Derived.Test.YtojogjlblgcioaoB5
import Derived.WalkLawsBesides
import Derived.WalkSpells
import Derived.Deep.RegionWith
import Derived.Laws.IdiomStrings
import Derived.Deep.QuietTactic
import Derived.BigQuiet
namespace Go.Proofs.Ytojogjlblgcioao
open Go.RowKit

set_option maxRecDepth 100000 in
theorem eqBrdLine_any (a b : Int) (w : World) :
    Calls Try.prog 120 #[.agg #[.int .i64 a, .int .i64 b], .agg #[.int .i64 a, .int .i64 b]] w fun e w' => e = .returned (.bool true) ∧ Below w.heap.size w w' := by
  have ha : (a != a) = false := by simp
  have hb : (b != b) = false := by simp
  go_enter Try.func120, Try.ntmps120
  go_wp2
  go_ret
  exact ⟨rfl, k_alloc (k_alloc (Below.refl _ _) _) _⟩

set_option maxRecDepth 100000 in
theorem eqTblCol_any (a b : Int) (w : World) :
    Calls Try.prog 90 #[.agg #[.int .i64 a, .int .i64 b], .agg #[.int .i64 a, .int .i64 b]] w fun e w' => e = .returned (.bool true) ∧ Below w.heap.size w w' := by
  have ha : (a != a) = false := by simp
  have hb : (b != b) = false := by simp
  go_enter Try.func90, Try.ntmps90
  go_wp2
  go_ret
  exact ⟨rfl, k_alloc (k_alloc (Below.refl _ _) _) _⟩

set_option maxRecDepth 100000 in
set_option maxHeartbeats 1000000 in
theorem eqTblCell_any (x : C) (w : World) :
    Calls Try.prog 115 #[.agg #[.string x.s, .int .i64 x.c, .int .i64 x.r, .int .i64 x.a1, .int .i64 x.b1, .int .i64 x.a2, .int .i64 x.b2, .int .i64 x.a3, .int .i64 x.b3, .int .i64 x.a4, .int .i64 x.b4], .agg #[.string x.s, .int .i64 x.c, .int .i64 x.r, .int .i64 x.a1, .int .i64 x.b1, .int .i64 x.a2, .int .i64 x.b2, .int .i64 x.a3, .int .i64 x.b3, .int .i64 x.a4, .int .i64 x.b4]] w fun e w' => e = .returned (.bool true) ∧ Below w.heap.size w w' := by
  have hc : (x.c != x.c) = false := by simp
  have hr : (x.r != x.r) = false := by simp
  go_enter Try.func115, Try.ntmps115
  go_wp2_with fail
  refine (eqBrdLine_any _ _ _).mono ?_
  rintro e w1 ⟨rfl, hb1⟩
  obtain ⟨hc1, hf1⟩ := bcell hb1
  have hy1 : w.heap.size + 1 < w1.heap.size := by have := hb1.size; simp at this; omega
  have hx1 : w.heap.size < w1.heap.size := by omega
  have HB1 := Hid.intro (k_trans (k_alloc (k_alloc (Below.refl _ _) _) _) hb1)
  clear hb1
  go_wp2_with fail
  refine (eqBrdLine_any _ _ _).mono ?_
  rintro e w2 ⟨rfl, hb2⟩
  obtain ⟨hc2, hf2⟩ := bcell hb2
  have hy2 : w.heap.size + 1 < w2.heap.size := by have := hb2.size; omega
  have hx2 : w.heap.size < w2.heap.size := by omega
  have HB2 := Hid.intro (k_trans HB1.out hb2)
  clear hb2
  go_wp2_with fail
  refine (eqBrdLine_any _ _ _).mono ?_
  rintro e w3 ⟨rfl, hb3⟩
  obtain ⟨hc3, hf3⟩ := bcell hb3
  have hy3 : w.heap.size + 1 < w3.heap.size := by have := hb3.size; omega
  have hx3 : w.heap.size < w3.heap.size := by omega
  have HB3 := Hid.intro (k_trans HB2.out hb3)
  clear hb3
  go_wp2_with fail
  refine (eqBrdLine_any _ _ _).mono ?_
  rintro e w4 ⟨rfl, hb4⟩
  obtain ⟨hc4, hf4⟩ := bcell hb4
  have hy4 : w.heap.size + 1 < w4.heap.size := by have := hb4.size; omega
  have hx4 : w.heap.size < w4.heap.size := by omega
  have HB4 := Hid.intro (k_trans HB3.out hb4)
  clear hb4
  go_wp2
  go_ret
  exact ⟨rfl, HB4.out⟩

set_option maxRecDepth 100000 in
set_option maxHeartbeats 2000000 in
theorem eqTblColS_any (v1 v2 : Value) (ps : List (Int × Int)) (w : World) {z1 z2 : Nat} (h1 : ColsAt w z1 v1 ps) (h2 : ColsAt w z2 v2 ps) :
    Calls Try.prog 59 #[v1, v2] w fun e w' => e = .returned (.bool true) ∧ Below w.heap.size w w' := by
  obtain ⟨a1, cap1, rfl, hlen⟩ := At.form h1
  obtain ⟨a2, cap2, rfl, _⟩ := At.form h2
  unfold maxLen at hlen
  have hne : ((ps.length : Int) != (ps.length : Int)) = false := by simp
  have H1 := Hid.intro h1
  have H2 := Hid.intro h2
  clear h1 h2
  go_enter Try.func59, Try.ntmps59
  go_wp2_with fail
  go_loopw [5] (fun i W => ∃ k : Nat, k ≤ ps.length ∧ i = .int .i64 k ∧ Hid (Below w.heap.size w W)) (fun i _ => ps.length - (intOf i).toNat)
  case atStart => exact ⟨0, Nat.zero_le _, rfl, Below.refl _ _⟩
  case round =>
    obtain ⟨k, hk, rfl, HB⟩ := hrel
    by_cases hlt : k < ps.length
    · have hlt' : (k : Int) < (ps.length : Int) := by omega
      have h0' : (0 : Int) ≤ (k : Int) := by omega
      obtain ⟨b1, off1, cap1', e1, hc11, hc12, hbl1, x0, x1⟩ := At.get (H1.out.kept HB.out) hlt
      simp only [Value.slice.injEq, true_and] at e1
      obtain ⟨rfl, rfl⟩ := e1
      unfold maxLen at hc12
      obtain ⟨b2, off2, cap2', e2, hc21, hc22, hbl2, y0, y1⟩ := At.get (H2.out.kept HB.out) hlt
      simp only [Value.slice.injEq, true_and] at e2
      obtain ⟨rfl, rfl⟩ := e2
      unfold maxLen at hc22
      generalize ps.getD k (0, 0) = x at x0 x1 y0 y1
      go_wp2_with fail
      go_region_with (go_at_call 90; refine (eqTblCol_any _ _ _).mono ?_; rintro e w1 ⟨rfl, hb1⟩; have HB1 := Hid.intro (k_trans (k_drew HB.out) hb1); clear hb1)
      all_goals
        go_wp2
        go_roundw
        case rel => exact ⟨k + 1, by omega, by go_num, HB1⟩
        case measure => simp [intOf]; omega
    · go_wp2
      go_ret
      exact ⟨rfl, HB.out⟩

set_option maxRecDepth 100000 in
set_option maxHeartbeats 2000000 in
theorem eqTblCellS_any (v1 v2 : Value) (cs : List C) (w : World) {z1 z2 : Nat} (h1 : CellsAt w z1 v1 cs) (h2 : CellsAt w z2 v2 cs) :
    Calls Try.prog 109 #[v1, v2] w fun e w' => e = .returned (.bool true) ∧ Below w.heap.size w w' := by
  obtain ⟨a1, cap1, rfl, hlen⟩ := At.form h1
  obtain ⟨a2, cap2, rfl, _⟩ := At.form h2
  unfold maxLen at hlen
  have hne : ((cs.length : Int) != (cs.length : Int)) = false := by simp
  have H1 := Hid.intro h1
  have H2 := Hid.intro h2
  clear h1 h2
  go_enter Try.func109, Try.ntmps109
  go_wp2_with fail
  go_loopw [5] (fun i W => ∃ k : Nat, k ≤ cs.length ∧ i = .int .i64 k ∧ Hid (Below w.heap.size w W)) (fun i _ => cs.length - (intOf i).toNat)
  case atStart => exact ⟨0, Nat.zero_le _, rfl, Below.refl _ _⟩
  case round =>
    obtain ⟨k, hk, rfl, HB⟩ := hrel
    by_cases hlt : k < cs.length
    · have hlt' : (k : Int) < (cs.length : Int) := by omega
      have h0' : (0 : Int) ≤ (k : Int) := by omega
      obtain ⟨b1, off1, cap1', e1, hc11, hc12, hbl1, hx, _⟩ := At.get (H1.out.kept HB.out) hlt
      simp only [Value.slice.injEq, true_and] at e1
      obtain ⟨rfl, rfl⟩ := e1
      unfold maxLen at hc12
      obtain ⟨b2, off2, cap2', e2, hc21, hc22, hbl2, hy, _⟩ := At.get (H2.out.kept HB.out) hlt
      simp only [Value.slice.injEq, true_and] at e2
      obtain ⟨rfl, rfl⟩ := e2
      unfold maxLen at hc22
      generalize cs.getD k dC = x at hx hy
      obtain ⟨x0, x1, x2, x3, x4, x5, x6, x7, x8, x9, x10⟩ := hx
      obtain ⟨y0, y1, y2, y3, y4, y5, y6, y7, y8, y9, y10⟩ := hy
      go_wp2_with fail
      go_region_with (go_at_call 115; refine (eqTblCell_any x _).mono ?_; rintro e w1 ⟨rfl, hb1⟩; have HB1 := Hid.intro (k_trans (k_drew HB.out) hb1); clear hb1)
      all_goals
        go_wp2
        go_roundw
        case rel => exact ⟨k + 1, by omega, by go_num, HB1⟩
        case measure => simp [intOf]; omega
    · go_wp2
      go_ret
      exact ⟨rfl, HB.out⟩

set_option maxRecDepth 100000 in
set_option maxHeartbeats 1000000 in
theorem eqTblRow_any (u1 u2 : Value) (cs : List C) (q : Bool) (w : World) {z1 z2 : Nat} (h1 : CellsAt w z1 u1 cs) (h2 : CellsAt w z2 u2 cs) :
    Calls Try.prog 91 #[.agg #[u1, .bool q], .agg #[u2, .bool q]] w fun e w' => e = .returned (.bool true) ∧ Below w.heap.size w w' := by
  obtain ⟨a1, cap1, rfl, _⟩ := At.form h1
  obtain ⟨a2, cap2, rfl, _⟩ := At.form h2
  have hq : (q != q) = false := by simp
  have H1 := Hid.intro (h1.kept (k_alloc (k_alloc (Below.refl _ _) (.cells #[.slice a1 cs.length cap1, .bool q] 88)) (.cells #[.slice a2 cs.length cap2, .bool q] 88)))
  have H2 := Hid.intro (h2.kept (k_alloc (k_alloc (Below.refl _ _) (.cells #[.slice a1 cs.length cap1, .bool q] 88)) (.cells #[.slice a2 cs.length cap2, .bool q] 88)))
  clear h1 h2
  go_enter Try.func91, Try.ntmps91
  go_wp2_with fail
  refine (eqTblCellS_any _ _ cs _ H1.out H2.out).mono ?_
  rintro e w1 ⟨rfl, hb1⟩
  obtain ⟨hc1, hf1⟩ := bcell hb1
  have hy1 : w.heap.size + 1 < w1.heap.size := by have := hb1.size; simp at this; omega
  have hx1 : w.heap.size < w1.heap.size := by omega
  have HB1 := Hid.intro (k_trans (k_alloc (k_alloc (Below.refl _ _) _) _) hb1)
  clear hb1
  go_wp2
  go_ret
  exact ⟨rfl, HB1.out⟩

set_option maxRecDepth 100000 in
set_option maxHeartbeats 2000000 in
theorem eqTblRowS_any (v1 v2 : Value) (rs : List R) (w : World) {z1 z2 : Nat} (h1 : RowsAt w z1 v1 rs) (h2 : RowsAt w z2 v2 rs) :
    Calls Try.prog 60 #[v1, v2] w fun e w' => e = .returned (.bool true) ∧ Below w.heap.size w w' := by
  obtain ⟨a1, cap1, rfl, hlen⟩ := At.form h1
  obtain ⟨a2, cap2, rfl, _⟩ := At.form h2
  unfold maxLen at hlen
  have hne : ((rs.length : Int) != (rs.length : Int)) = false := by simp
  have H1 := Hid.intro h1
  have H2 := Hid.intro h2
  clear h1 h2
  go_enter Try.func60, Try.ntmps60
  go_wp2_with fail
  go_loopw [5] (fun i W => ∃ k : Nat, k ≤ rs.length ∧ i = .int .i64 k ∧ Hid (Below w.heap.size w W)) (fun i _ => rs.length - (intOf i).toNat)
  case atStart => exact ⟨0, Nat.zero_le _, rfl, Below.refl _ _⟩
  case round =>
    obtain ⟨k, hk, rfl, HB⟩ := hrel
    by_cases hlt : k < rs.length
    · have hlt' : (k : Int) < (rs.length : Int) := by omega
      have h0' : (0 : Int) ≤ (k : Int) := by omega
      obtain ⟨b1, off1, cap1', e1, hc11, hc12, hbl1, u1, x0, x1, x2⟩ := At.get (H1.out.kept HB.out) hlt
      simp only [Value.slice.injEq, true_and] at e1
      obtain ⟨rfl, rfl⟩ := e1
      unfold maxLen at hc12
      obtain ⟨b2, off2, cap2', e2, hc21, hc22, hbl2, u2, y0, y1, y2⟩ := At.get (H2.out.kept HB.out) hlt
      simp only [Value.slice.injEq, true_and] at e2
      obtain ⟨rfl, rfl⟩ := e2
      unfold maxLen at hc22
      generalize rs.getD k dR = x at x1 x2 y1 y2
      obtain ⟨c1, d1, rfl, _⟩ := At.form x2
      obtain ⟨c2, d2, rfl, _⟩ := At.form y2
      have X2 := Hid.intro x2
      have Y2 := Hid.intro y2
      clear x2 y2
      go_wp2_with fail
      go_region_with (go_at_call 91; refine (eqTblRow_any _ _ x.cells x.whole _ (X2.out.kept (k_drew (Below.refl _ _))) (Y2.out.kept (k_drew (Below.refl _ _)))).mono ?_; rintro e w1 ⟨rfl, hb1⟩; have HB1 := Hid.intro (k_trans (k_drew HB.out) hb1); clear hb1)
      all_goals
        go_wp2
        go_roundw
        case rel => exact ⟨k + 1, by omega, by go_num, HB1⟩
        case measure => simp [intOf]; omega
    · go_wp2
      go_ret
      exact ⟨rfl, HB.out⟩

set_option maxRecDepth 100000 in
set_option maxHeartbeats 1000000 in
theorem eqTblTable_any (v1 v2 : Value) (t : T) (w : World) {z1 z2 : Nat} (h1 : TblAt w z1 v1 t) (h2 : TblAt w z2 v2 t) :
    Calls Try.prog 26 #[v1, v2] w fun e w' => e = .returned (.bool true) ∧ Below w.heap.size w w' := by
  obtain ⟨vc1, vr1, rfl, h1c, h1r⟩ := h1
  obtain ⟨vc2, vr2, rfl, h2c, h2r⟩ := h2
  obtain ⟨ac1, cc1, rfl, _⟩ := At.form h1c
  obtain ⟨ar1, cr1, rfl, _⟩ := At.form h1r
  obtain ⟨ac2, cc2, rfl, _⟩ := At.form h2c
  obtain ⟨ar2, cr2, rfl, _⟩ := At.form h2r
  have hh : (t.head != t.head) = false := by simp
  have hf : (t.foot != t.foot) = false := by simp
  have hg : (t.gap != t.gap) = false := by simp
  have K := Hid.intro (k_alloc (k_alloc (Below.refl w.heap.size w) (.cells #[.slice ac1 t.cols.length cc1, .int .i64 t.head, .int .i64 t.foot, .slice ar1 t.rows.length cr1, .int .i64 t.gap] 56)) (.cells #[.slice ac2 t.cols.length cc2, .int .i64 t.head, .int .i64 t.foot, .slice ar2 t.rows.length cr2, .int .i64 t.gap] 56))
  have HC1 := Hid.intro (h1c.kept K.out)
  have HC2 := Hid.intro (h2c.kept K.out)
  have HR1 := Hid.intro (h1r.kept K.out)
  have HR2 := Hid.intro (h2r.kept K.out)
  clear h1c h1r h2c h2r
  go_enter Try.func26, Try.ntmps26
  go_wp2_with fail
  refine (eqTblColS_any _ _ t.cols _ HC1.out HC2.out).mono ?_
  rintro e w1 ⟨rfl, hb1⟩
  obtain ⟨hc1, hf1⟩ := bcell hb1
  have hy1 : w.heap.size + 1 < w1.heap.size := by have := hb1.size; simp at this; omega
  have hx1 : w.heap.size < w1.heap.size := by omega
  have HB1 := Hid.intro (k_trans K.out hb1)
  have HS1 := Hid.intro (HR1.out.kept hb1)
  have HS2 := Hid.intro (HR2.out.kept hb1)
  clear hb1
  go_wp2_with fail
  refine (eqTblRowS_any _ _ t.rows _ HS1.out HS2.out).mono ?_
  rintro e w2 ⟨rfl, hb2⟩
  obtain ⟨hc2, hf2⟩ := bcell hb2
  have hy2 : w.heap.size + 1 < w2.heap.size := by have := hb2.size; omega
  have hx2 : w.heap.size < w2.heap.size := by omega
  have HB2 := Hid.intro (k_trans HB1.out hb2)
  clear hb2
  go_wp2
  go_ret
  exact ⟨rfl, HB2.out⟩
end Go.Proofs.Ytojogjlblgcioao
namespace Go.Proofs.Ytojogjlblgcioao
open Go.RowKit

/-- what lies ahead of B, or at D and behind it, is as it was -/
structure Out (B D : Nat) (w w' : World) : Prop where
  below : Below B w w'
  block : ∀ k, D ≤ k → k < w.heap.size → w'.heap[k]? = w.heap[k]?
theorem Out.refl (B D : Nat) (w : World) : Out B D w w := ⟨Below.refl _ _, fun _ _ _ => rfl⟩
theorem Out.set {B D : Nat} {a w : World} (h : Out B D a w) {p : Addr} (h1 : B ≤ p.block) (h2 : p.block < D) (v : Value) : Out B D a (w.setCell p v) :=
  ⟨h.below.setCell h1 v, fun k h3 h4 => (Below.heap_setCell _ _ _ _ (by omega)).trans (h.block k h3 h4)⟩
theorem Out.drewN {B D : Nat} {a w : World} (h : Out B D a w) (n : Nat) : Out B D a (w.drewN n) := ⟨⟨h.below.os, h.below.tape, h.below.output, h.below.size, h.below.block⟩, h.block⟩
end Go.Proofs.Ytojogjlblgcioao
namespace Go.Proofs.Ytojogjlblgcioao
open Go.RowKit

/-- a mark's digits, and a mark -/
def digs (n : Nat) (out : ByteArray) : ByteArray := if n = 0 then out else digs (n / 10) (⟨#[48 + UInt8.ofNat (n % 10)]⟩ ++ out)
termination_by n
decreasing_by omega
def mt (k : Nat) : ByteArray := ⟨#[109]⟩ ++ digs k ⟨#[]⟩
set_option maxRecDepth 100000 in
set_option maxHeartbeats 1000000 in
theorem markText_big (k : Nat) (h0 : 0 < k) (hk : k ≤ 99999999) (w : World) :
    Calls Try.prog 42 #[.int .i64 k] w fun e w' => e = .returned (.string (mt k)) ∧ Below w.heap.size w w' := by
  have hp : ¬ (k : Int) ≤ 0 := by omega
  go_enter Try.func42, Try.ntmps42
  go_wp2_with fail
  go_loopw [0, 3] (fun q o W => ∃ (m : Nat) (out : ByteArray), q = .int .i64 m ∧ o = .string out ∧ digs m out = digs k ⟨#[]⟩ ∧ (out.size = 0 ∧ m ≤ 99999999 ∨ out.size = 1 ∧ m ≤ 9999999 ∨ out.size = 2 ∧ m ≤ 999999 ∨ out.size = 3 ∧ m ≤ 99999 ∨ out.size = 4 ∧ m ≤ 9999 ∨ out.size = 5 ∧ m ≤ 999 ∨ out.size = 6 ∧ m ≤ 99 ∨ out.size = 7 ∧ m ≤ 9 ∨ out.size = 8 ∧ m ≤ 0) ∧ Hid (Below w.heap.size w W)) (fun q _ _ => (intOf q).toNat)
  case atStart => exact ⟨k, ⟨#[]⟩, rfl, rfl, rfl, .inl ⟨rfl, hk⟩, Below.refl _ _⟩
  case round =>
    obtain ⟨m, out, rfl, rfl, hd, hsz, HB⟩ := hrel
    have HD := Hid.intro hd
    clear hd
    by_cases hm : 0 < m
    · have hs : out.size ≤ 7 := by omega
      have hmm : m ≤ 99999999 := by omega
      have hcv : (convert 73 9 (.slice (some ⟨wr.heap.size, 0, none⟩) 1 1)).run Try.prog (wr.alloc (.cells #[.int .u8 (48 + (m : Int) % 10)] 5)) = .ok (.string ⟨#[48 + UInt8.ofNat (m % 10)]⟩) (wr.alloc (.cells #[.int .u8 (48 + (m : Int) % 10)] 5)) :=
        run_convert_bytes_back _ _ _ 5 ⟨wr.heap.size, 0, none⟩ 1 [48 + UInt8.ofNat (m % 10)] Try.underlying73 Try.underlying5 Try.underlying9 (fun i hi => by
          match i, hi with
          | 0, _ => simp [Addr.add, UInt8.toNat_add]; omega)
      have hz1 : ¬ 9223372036854775807 < 1 + out.size := by omega
      have HE : Hid (digs m out = digs (m / 10) (⟨#[48 + UInt8.ofNat (m % 10)]⟩ ++ out)) := by show _ = _; rw [digs, if_neg (by omega)]
      have hsn : (ByteArray.mk #[48 + UInt8.ofNat (m % 10)] ++ out).size = 1 + out.size := by rw [ByteArray.size_append]; rfl
      have hq : ((ByteArray.mk #[48 + UInt8.ofNat (m % 10)] ++ out).size = 0 ∧ m / 10 ≤ 99999999 ∨ (ByteArray.mk #[48 + UInt8.ofNat (m % 10)] ++ out).size = 1 ∧ m / 10 ≤ 9999999 ∨ (ByteArray.mk #[48 + UInt8.ofNat (m % 10)] ++ out).size = 2 ∧ m / 10 ≤ 999999 ∨ (ByteArray.mk #[48 + UInt8.ofNat (m % 10)] ++ out).size = 3 ∧ m / 10 ≤ 99999 ∨ (ByteArray.mk #[48 + UInt8.ofNat (m % 10)] ++ out).size = 4 ∧ m / 10 ≤ 9999 ∨ (ByteArray.mk #[48 + UInt8.ofNat (m % 10)] ++ out).size = 5 ∧ m / 10 ≤ 999 ∨ (ByteArray.mk #[48 + UInt8.ofNat (m % 10)] ++ out).size = 6 ∧ m / 10 ≤ 99 ∨ (ByteArray.mk #[48 + UInt8.ofNat (m % 10)] ++ out).size = 7 ∧ m / 10 ≤ 9 ∨ (ByteArray.mk #[48 + UInt8.ofNat (m % 10)] ++ out).size = 8 ∧ m / 10 ≤ 0) := by rw [hsn]; omega
      have HQ := Hid.intro hq
      clear hq hsz
      go_wp2
      go_roundw
      case rel => exact ⟨m / 10, _, by go_num, rfl, by rw [← HE.out]; exact HD.out, HQ.out, k_alloc HB.out _⟩
      case measure => simp [intOf]; omega
    · obtain rfl : m = 0 := by omega
      have hs : out.size ≤ 8 := by omega
      have HE : Hid (digs 0 out = out) := by show _ = _; rw [digs, if_pos rfl]
      have hz1 : ¬ 9223372036854775807 < 1 + out.size := by omega
      clear hsz
      go_wp2
      go_ret
      exact ⟨by rw [mt, ← HD.out, HE.out]; rfl, HB.out⟩

/-- a cell of marks -/
def mkC (k : Nat) : C := ⟨mt k, (k : Int) + 1, (k : Int) + 2, (k : Int) + 3, (k : Int) + 4, (k : Int) + 5, (k : Int) + 6, (k : Int) + 7, (k : Int) + 8, (k : Int) + 9, (k : Int) + 10⟩
def mkCs (n k : Nat) : List C := (List.range n).map fun i => mkC (k + 11 * i)
theorem mkCs_len (n k : Nat) : (mkCs n k).length = n := by simp [mkCs]
theorem mkCs_get {n k i : Nat} (h : i < n) : (mkCs n k).getD i dC = mkC (k + 11 * i) := by simp [mkCs, List.getD, h]
theorem put11_nextF {arr : Array Value} {f : Nat → C} {k n : Nat} (hs : n * 11 ≤ arr.size) (hk : k < n) (h : ∀ i, i < k → CellArr arr (i * 11) (f i)) :
    ∀ i, i < k + 1 → CellArr (put11 arr (k * 11) (f k)) (i * 11) (f i) := by
  intro i hi
  rcases Nat.lt_or_eq_of_le (Nat.lt_succ_iff.1 hi) with h1 | rfl
  · exact (h i h1).of_same (fun p hp1 hp2 => put11_before _ _ _ _ (by omega))
  · exact put11_at _ _ _ (by omega)
theorem flat_take {α : Type} (f : α → List Value) (sz : Nat) (hf : ∀ x, (f x).length = sz) (l : List α) (arr : Array Value) (hs : l.length * sz ≤ arr.size) (h : ∀ i, (hi : i < l.length) → ∀ j, j < sz → arr[i * sz + j]? = (f l[i])[j]?) : arr.toList.take (l.length * sz) = l.flatMap f := by
  have e := flat_arr f sz hf l (arr.extract 0 (l.length * sz)) (by rw [Array.size_extract]; omega) (fun i hi j hj => by
    have hlt : i * sz + j < l.length * sz := by
      have : (i + 1) * sz ≤ l.length * sz := Nat.mul_le_mul_right sz hi
      rw [Nat.succ_mul] at this
      omega
    rw [Array.getElem?_extract, if_pos (by omega), Nat.zero_add]
    exact h i hi j hj)
  rw [← e]
  simp [List.take_take]
theorem own_take {arr : Array Value} {cs : List C} (hs : cs.length * 11 ≤ arr.size) (h : ∀ i, i < cs.length → CellArr arr (i * 11) (cs.getD i dC)) : arr.toList.take (cs.length * 11) = cs.flatMap cellVs := by
  refine flat_take cellVs 11 (fun _ => rfl) cs arr hs (fun i hi j hj => ?_)
  have e := h i hi
  rw [getD_get dC hi] at e
  obtain ⟨h0, h1, h2, h3, h4, h5, h6, h7, h8, h9, h10⟩ := e
  match j, hj with
  | 0, _ => exact h0
  | 1, _ => exact h1
  | 2, _ => exact h2
  | 3, _ => exact h3
  | 4, _ => exact h4
  | 5, _ => exact h5
  | 6, _ => exact h6
  | 7, _ => exact h7
  | 8, _ => exact h8
  | 9, _ => exact h9
  | 10, _ => exact h10
theorem grown_refl (w : World) (r : Option Nat) : w.grownBy w r := ⟨rfl, rfl, rfl, Nat.le_refl _, fun _ _ _ => rfl⟩
theorem grown_trans {a b c : World} {r : Option Nat} (h : a.grownBy b r) (k : b.grownBy c r) : a.grownBy c r :=
  ⟨k.os.trans h.os, k.tape.trans h.tape, k.output.trans h.output, Nat.le_trans h.size k.size, fun i hi hr => (k.block i (Nat.lt_of_lt_of_le hi h.size) hr).trans (h.block i hi hr)⟩
theorem grown_below {a b : World} {r : Option Nat} (h : Below a.heap.size a b) : a.grownBy b r := ⟨h.os, h.tape, h.output, h.size, fun k hk _ => h.block k hk⟩
theorem grown_set {a w : World} {g : Nat} (h : a.grownBy w (some g)) {p : Addr} (hp : p.block = g) (v : Value) : a.grownBy (w.setCell p v) (some g) :=
  ⟨h.os, h.tape, h.output, by rw [sizeSet]; exact h.size, fun k hk hr => (Below.heap_setCell _ _ _ _ (fun e => hr (by rw [e, hp]))).trans (h.block k hk hr)⟩

set_option maxRecDepth 100000 in
set_option maxHeartbeats 2000000 in
theorem markTblCellS_any (u : Value) (cs : List C) (k0 : Nat) (h0 : 0 < k0) (hb : k0 + 11 * cs.length ≤ 99999990) (B : Nat) (w : World) (h : OwnC w B u cs) :
    Calls Try.prog 92 #[u, .int .i64 k0] w fun e w' => e = .returned (.int .i64 ((k0 + 11 * cs.length : Nat) : Int)) ∧ OwnC w' B u (mkCs cs.length k0) ∧ w.grownBy w' u.ownBlock := by
  rcases h.2 with ⟨rfl, hn⟩ | ⟨g, cap, cur, rfl, hg, hc, h1, h2, h3, h4⟩
  · obtain rfl : cs = [] := List.length_eq_zero_iff.1 hn
    go_enter Try.func92, Try.ntmps92
    go_wp2_with fail
    go_loopw [1, 5] (fun q i W => q = .int .i64 k0 ∧ i = .int .i64 0 ∧ W = w) (fun _ _ _ => 0)
    case atStart => exact ⟨rfl, rfl, rfl⟩
    case round =>
      obtain ⟨rfl, rfl, rfl⟩ := hrel
      go_wp2
      go_ret
      exact ⟨rfl, ⟨rfl, .inl ⟨rfl, rfl⟩⟩, grown_refl _ _⟩
  · have HC := Hid.intro hc
    have hgl : g < w.heap.size := (Array.getElem?_eq_some_iff.1 hc).1
    clear h h4 hc
    generalize hN : cs.length = n at *
    clear hN
    have hcap : n * 11 ≤ cap * 11 := Nat.mul_le_mul_right 11 h1
    go_enter Try.func92, Try.ntmps92
    go_wp2_with fail
    go_loopw [1, 5] (fun q i W => ∃ (k b : Nat) (arr : Array Value), k ≤ n ∧ i = .int .i64 k ∧ q = .int .i64 b ∧ Hid (b = k0 + 11 * k) ∧ Hid (W.heap[g]? = some (.cells arr 62)) ∧ arr.size = cap * 11 ∧ Hid (∀ i, i < k → CellArr arr (i * 11) (mkC (k0 + 11 * i))) ∧ Hid (w.grownBy W (some g))) (fun _ i _ => n - (intOf i).toNat)
    case atStart => exact ⟨0, k0, cur, Nat.zero_le _, rfl, rfl, rfl, HC, h3, fun i hi => absurd hi (Nat.not_lt_zero i), grown_refl _ _⟩
    case round =>
      obtain ⟨k, b, arr, hk, rfl, rfl, HE, HBk, hsz, HA, HG⟩ := hrel
      by_cases hlt : k < n
      · have hbb : 0 < b ∧ b ≤ 99999979 := by rw [HE.out]; omega
        have HN := Hid.intro (put11_nextF (f := fun i => mkC (k0 + 11 * i)) (n := cap) (by omega) (by omega) HA.out)
        have HM := Hid.intro (markText_big b hbb.1 (by omega))
        unfold maxLen at h2
        go_wp2_with fail
        refine (HM.out _).mono ?_
        rintro e w1 ⟨rfl, hb1⟩
        have B1 := (hb1.block g (Array.getElem?_eq_some_iff.1 HBk.out).1).trans HBk.out
        obtain ⟨y0, q0⟩ := someB (p := k * 11) B1 (by omega)
        obtain ⟨y1, q1⟩ := someB (p := k * 11 + 1) B1 (by omega)
        obtain ⟨y2, q2⟩ := someB (p := k * 11 + 2) B1 (by omega)
        obtain ⟨y3, q3⟩ := someB (p := k * 11 + 3) B1 (by omega)
        obtain ⟨y4, q4⟩ := someB (p := k * 11 + 4) B1 (by omega)
        obtain ⟨y5, q5⟩ := someB (p := k * 11 + 5) B1 (by omega)
        obtain ⟨y6, q6⟩ := someB (p := k * 11 + 6) B1 (by omega)
        obtain ⟨y7, q7⟩ := someB (p := k * 11 + 7) B1 (by omega)
        obtain ⟨y8, q8⟩ := someB (p := k * 11 + 8) B1 (by omega)
        obtain ⟨y9, q9⟩ := someB (p := k * 11 + 9) B1 (by omega)
        obtain ⟨y10, q10⟩ := someB (p := k * 11 + 10) B1 (by omega)
        have fz : ∀ p, w1.frozen? ⟨g, p, none⟩ = false := fun p => freeB B1
        have HB1 := Hid.intro B1
        have HG1 := Hid.intro (grown_trans HG.out (grown_below hb1))
        have HNe : Hid (mkC (k0 + 11 * k) = mkC b) := by rw [HE.out]; exact rfl
        have HE2 : Hid (b + 11 = k0 + 11 * (k + 1)) := by show _ = _; rw [HE.out]; omega
        clear B1 hb1 HA HG HBk HM HE
        go_wp2
        go_roundw
        case rel => exact ⟨k + 1, b + 11, put11 arr (k * 11) (mkC b), by omega, by go_num, by go_num, HE2, setB (setB (setB (setB (setB (setB (setB (setB (setB (setB (setB HB1.out _) _) _) _) _) _) _) _) _) _) _, by rw [put11_size]; exact hsz, by rw [← HNe.out]; exact HN, grown_set (grown_set (grown_set (grown_set (grown_set (grown_set (grown_set (grown_set (grown_set (grown_set (grown_set HG1.out rfl _) rfl _) rfl _) rfl _) rfl _) rfl _) rfl _) rfl _) rfl _) rfl _) rfl _⟩
        case measure => simp [intOf]; omega
      · obtain rfl : k = n := by omega
        have HE2 : Hid ((b : Int) = ((k0 + 11 * k : Nat) : Int)) := by show _ = _; rw [HE.out]
        clear HE
        go_wp2
        go_ret
        refine ⟨congrArg (fun x : Int => Ending.returned (Value.int .i64 x)) HE2.out, ?_, HG.out⟩
        have e := own_take (arr := arr) (cs := mkCs k k0) (by rw [mkCs_len]; omega) (fun i hi => by rw [mkCs_len] at hi; rw [mkCs_get hi]; exact HA.out i hi)
        rw [mkCs_len] at e
        exact ⟨by rw [flat_len cellVs 11 (fun _ => rfl)], .inr ⟨g, cap, arr, by rw [mkCs_len], hg, HBk.out, by rw [mkCs_len]; exact h1, h2, hsz, by rw [mkCs_len]; exact e⟩⟩
end Go.Proofs.Ytojogjlblgcioao
