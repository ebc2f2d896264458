/-
  PROVED HERE: lists of texts that own their memory, and what the laws' own eqStringS, markText, markStringS and heldStringS answer of them; what lies ahead of the list that is marked is not turned.
-/
import Derived.Test.YtgnaaeonklongarMem
import Derived.Test.YtgnaaeonklongarTbl
import Derived.Laws.AppendOwn
import Derived.Laws.IdiomStrings
import Derived.WalkLawsBesides
import Derived.WalkSpells
import Derived.Deep.RegionWith
import Derived.Deep.QuietTactic
import Derived.BigQuiet
namespace Go.Proofs.Ytgnaaeonklongar
open Go.RowKit

def eS : ByteArray := ByteArray.empty
/-- a list of texts, in a block of its own, at B or behind it -/
def RowS (w : World) (B : Nat) (v : Value) (l : List ByteArray) : Prop :=
  (v = .slice none 0 0 ∧ l = []) ∨ ∃ g cap cur, v = .slice (some ⟨g, 0, none⟩) l.length cap ∧ B ≤ g ∧ w.heap[g]? = some (.cells cur 9 (0, 0)) ∧ l.length ≤ cap ∧ cap ≤ maxLen ∧ cur.size = cap ∧ ∀ i, i < l.length → cur[i]? = some (.string (l.getD i eS))
theorem RowS.of_owns {w : World} {B : Nat} {v : Value} {l : List ByteArray} (h : w.ownsRow B 9 1 v l.length (l.map Value.string)) : RowS w B v l := by
  rcases h.2 with ⟨hv, h0⟩ | ⟨g, cap, cur, hv, hb, hg, h1, h2, h3, h4⟩
  · exact .inl ⟨hv, List.eq_nil_of_length_eq_zero h0⟩
  · refine .inr ⟨g, cap, cur, hv, hb, hg, h1, h2, by omega, fun i hi => ?_⟩
    have : cur.toList[i]? = (l.map Value.string)[i]? := by rw [← h4, List.getElem?_take_of_lt (by omega)]
    rw [← Array.getElem?_toList, this]
    simp [List.getD, hi]
theorem RowS.below {w w' : World} {B C : Nat} {v : Value} {l : List ByteArray} (h : RowS w B v l) (k : Below C w w') (hC : w.heap.size ≤ C) : RowS w' B v l := by
  rcases h with h | ⟨g, cap, cur, hv, hb, hg, r⟩
  · exact .inl h
  · exact .inr ⟨g, cap, cur, hv, hb, (k.block g (Nat.lt_of_lt_of_le (Array.getElem?_eq_some_iff.1 hg).1 hC)).trans hg, r⟩
/-- a list keeps where what lies below a place keeps, if it lay below that when it was made -/
theorem RowS.under {w0 w w' : World} {B C : Nat} {v : Value} {l : List ByteArray} (h : RowS w0 B v l) (k : Below w0.heap.size w0 w) (k' : Below C w w') (hC : w0.heap.size ≤ C) : RowS w' B v l := by
  rcases h with h | ⟨g, cap, cur, hv, hb, hg, r⟩
  · exact .inl h
  · have hlt := (Array.getElem?_eq_some_iff.1 hg).1
    exact .inr ⟨g, cap, cur, hv, hb, (k'.block g (Nat.lt_of_lt_of_le hlt hC)).trans ((k.block g hlt).trans hg), r⟩
theorem RowS.base {w : World} {B B' : Nat} {v : Value} {l : List ByteArray} (h : RowS w B v l) (hB : B' ≤ B) : RowS w B' v l := by
  rcases h with h | ⟨g, cap, cur, hv, hb, r⟩
  · exact .inl h
  · exact .inr ⟨g, cap, cur, hv, Nat.le_trans hB hb, r⟩
theorem ownsRow_keptS {w w' : World} {base size n : Nat} {e : TypeId} {v : Value} {xs : List Value} (h : w.ownsRow base e size v n xs) (hb : Below w.heap.size w w') : w'.ownsRow base e size v n xs :=
  ⟨h.1, h.2.elim Or.inl (fun ⟨g, cap, cur, hv, hg, hc, r⟩ => Or.inr ⟨g, cap, cur, hv, hg, (hb.block g (Array.getElem?_eq_some_iff.1 hc).1).trans hc, r⟩)⟩
theorem RowS.form {w : World} {B : Nat} {v : Value} {l : List ByteArray} (h : RowS w B v l) : ∃ a cap, v = .slice a l.length cap := by
  rcases h with ⟨rfl, rfl⟩ | ⟨g, cap, cur, hv, _⟩
  · exact ⟨none, 0, rfl⟩
  · exact ⟨_, _, hv⟩
theorem RowS.get {w : World} {B : Nat} {v : Value} {l : List ByteArray} (h : RowS w B v l) {i : Nat} (hi : i < l.length) :
    ∃ g cap, v = .slice (some ⟨g, 0, none⟩) l.length cap ∧ B ≤ g ∧ g < w.heap.size ∧ l.length ≤ cap ∧ cap ≤ maxLen ∧ w.cell? ⟨g, i, none⟩ = some (.string (l.getD i eS)) ∧ w.frozen? ⟨g, i, none⟩ = false := by
  rcases h with ⟨_, rfl⟩ | ⟨g, cap, cur, hv, hb, hg, h1, h2, h3, h4⟩
  · cases hi
  · exact ⟨g, cap, hv, hb, (Array.getElem?_eq_some_iff.1 hg).1, h1, h2, (cellB hg).trans (h4 i hi), freeB hg⟩
theorem RowS.set {w : World} {B g cap n : Nat} {l : List ByteArray} (h : RowS w B (.slice (some ⟨g, 0, none⟩) n cap) l) {i : Nat} (hi : i < l.length) (x : ByteArray) : RowS (w.setCell ⟨g, i, none⟩ (.string x)) B (.slice (some ⟨g, 0, none⟩) n cap) (l.set i x) := by
  rcases h with ⟨hv, _⟩ | ⟨g', cap', cur, hv, hb, hg, h1, h2, h3, h4⟩
  · simp at hv
  · simp only [Value.slice.injEq, Option.some.injEq, Addr.mk.injEq, and_true] at hv
    obtain ⟨rfl, rfl, rfl⟩ := hv
    refine .inr ⟨g, cap, cur.setIfInBounds i (.string x), by simp, hb, setB hg _, by simpa using h1, h2, by simpa using h3, fun j hj => ?_⟩
    rw [List.length_set] at hj
    by_cases e : i = j
    · subst e
      simp [List.getD, hj, show i < cur.size by omega]
    · rw [Array.getElem?_setIfInBounds_ne e, h4 j hj]
      simp [List.getD, e]

/-- a mark's digits, and a mark -/
def digs (n : Nat) (out : ByteArray) : ByteArray := if n = 0 then out else digs (n / 10) (⟨#[48 + UInt8.ofNat (n % 10)]⟩ ++ out)
termination_by n
decreasing_by omega
def mt (k : Nat) : ByteArray := ⟨#[109]⟩ ++ digs k ⟨#[]⟩

set_option maxRecDepth 100000 in
set_option maxHeartbeats 1000000 in
theorem markText_any (k : Nat) (h0 : 0 < k) (hk : k ≤ 99) (w : World) :
    Calls Try.prog 39 #[.int .i64 k] w fun e w' => e = .returned (.string (mt k)) ∧ Below w.heap.size w w' := by
  have hp : ¬ (k : Int) ≤ 0 := by omega
  go_enter Try.func39, Try.ntmps39
  go_wp2_with fail
  go_loopw [0, 3] (fun q o W => ∃ (m : Nat) (out : ByteArray), q = .int .i64 m ∧ o = .string out ∧ digs m out = digs k ⟨#[]⟩ ∧ (out.size = 0 ∧ m ≤ 99 ∨ out.size = 1 ∧ m ≤ 9 ∨ out.size = 2 ∧ m = 0) ∧ Hid (Below w.heap.size w W)) (fun q _ _ => (intOf q).toNat)
  case atStart => exact ⟨k, ⟨#[]⟩, rfl, rfl, rfl, .inl ⟨rfl, hk⟩, Below.refl _ _⟩
  case round =>
    obtain ⟨m, out, rfl, rfl, hd, hsz, HB⟩ := hrel
    have HD := Hid.intro hd
    clear hd
    by_cases hm : 0 < m
    · have hs : out.size ≤ 1 := by omega
      have hmm : m ≤ 99 := by omega
      have hcv : (convert 61 9 (.slice (some ⟨wr.heap.size, 0, none⟩) 1 1)).run Try.prog (wr.alloc (.cells #[.int .u8 (48 + (m : Int) % 10)] 5)) = .ok (.string ⟨#[48 + UInt8.ofNat (m % 10)]⟩) (wr.alloc (.cells #[.int .u8 (48 + (m : Int) % 10)] 5)) :=
        run_convert_bytes_back _ _ _ 5 ⟨wr.heap.size, 0, none⟩ 1 [48 + UInt8.ofNat (m % 10)] Try.underlying61 Try.underlying5 Try.underlying9 (fun i hi => by
          match i, hi with
          | 0, _ => simp [Addr.add, UInt8.toNat_add]; omega)
      have hz1 : ¬ 9223372036854775807 < 1 + out.size := by omega
      have HE : Hid (digs m out = digs (m / 10) (⟨#[48 + UInt8.ofNat (m % 10)]⟩ ++ out)) := by show _ = _; rw [digs, if_neg (by omega)]
      have hsn : (ByteArray.mk #[48 + UInt8.ofNat (m % 10)] ++ out).size = 1 + out.size := by rw [ByteArray.size_append]; rfl
      go_wp2
      go_roundw
      case rel => exact ⟨m / 10, _, by go_num, rfl, by rw [← HE.out]; exact HD.out, by rw [hsn]; omega, k_alloc HB.out _⟩
      case measure => simp [intOf]; omega
    · obtain rfl : m = 0 := by omega
      have hs : out.size ≤ 2 := by omega
      have HE : Hid (digs 0 out = out) := by show _ = _; rw [digs, if_pos rfl]
      have hz1 : ¬ 9223372036854775807 < 1 + out.size := by omega
      go_wp2
      go_ret
      exact ⟨by rw [mt, ← HD.out, HE.out]; rfl, HB.out⟩

/-- the first i of a list turned to marks -/
def marked (l : List ByteArray) (i : Nat) : List ByteArray := (List.range i).map (fun j => mt (1 + j)) ++ l.drop i
theorem marked_len {l : List ByteArray} {i : Nat} (h : i ≤ l.length) : (marked l i).length = l.length := by simp [marked]; omega
theorem marked_zero (l : List ByteArray) : marked l 0 = l := by simp [marked]
theorem marked_next {l : List ByteArray} {i : Nat} (h : i < l.length) : (marked l i).set i (mt (1 + i)) = marked l (i + 1) := by
  unfold marked
  rw [List.set_append_right _ _ (by simp), List.range_succ, List.map_append]
  simp only [List.length_map, List.length_range, Nat.sub_self, List.map_cons, List.map_nil, List.append_assoc]
  rw [List.drop_eq_getElem_cons h]
  rfl
theorem marked_get {l : List ByteArray} {i : Nat} (h : i < l.length) : (marked l l.length).getD i eS = mt (1 + i) := by
  simp [marked, List.getD, h]

set_option maxRecDepth 100000 in
set_option maxHeartbeats 1000000 in
theorem markStringS_any (v : Value) (l : List ByteArray) (hl : l.length ≤ 90) (B : Nat) (w : World) (hB : B ≤ w.heap.size) (h : RowS w B v l) :
    Calls Try.prog 12 #[v, .int .i64 1] w fun e w' => e = .returned (.int .i64 (1 + (l.length : Int))) ∧ RowS w' B v (marked l l.length) ∧ Below B w w' := by
  obtain ⟨a, cap, rfl⟩ := h.form
  go_enter Try.func12, Try.ntmps12
  go_wp2_with fail
  go_loopw [1, 5] (fun q i W => ∃ k : Nat, k ≤ l.length ∧ i = .int .i64 k ∧ q = .int .i64 (1 + (k : Int)) ∧ Hid (RowS W B (.slice a l.length cap) (marked l k)) ∧ Hid (Below B w W)) (fun _ i _ => l.length - (intOf i).toNat)
  case atStart => exact ⟨0, Nat.zero_le _, rfl, by simp, by rw [marked_zero]; exact h, Below.refl _ _⟩
  case round =>
    obtain ⟨k, hk, rfl, rfl, HR, HB⟩ := hrel
    by_cases hlt : k < l.length
    · have hml := marked_len hk
      obtain ⟨g, cap', e', hg, hgs, h1, h2, hx, hf⟩ := HR.out.get (i := k) (by omega)
      rw [hml] at e' h1
      simp only [Value.slice.injEq, true_and] at e'
      obtain ⟨rfl, rfl⟩ := e'
      have HM := Hid.intro (markText_any (1 + k) (by omega) (by omega))
      have e1 : ((1 + k : Nat) : Int) = 1 + (k : Int) := by omega
      rw [e1] at HM
      have HN := Hid.intro (marked_next hlt)
      have hbs := HB.out.size
      unfold maxLen at h2
      generalize (marked l k).getD k eS = y at hx
      go_wp2_with fail
      refine (HM.out _).mono ?_
      rintro e w1 ⟨rfl, hb1⟩
      have hx1 := (hb1.cell (p := ⟨g, k, none⟩) hgs).trans hx
      have hf1 := (hb1.frozen (p := ⟨g, k, none⟩) hgs).trans hf
      have HR1 := Hid.intro ((HR.out.below hb1 (Nat.le_refl _)).set (i := k) (by omega) (mt (1 + k)))
      have HB1 := Hid.intro ((HB.out.trans (hb1.mono (by omega))).setCell (p := ⟨g, k, none⟩) hg (.string (mt (1 + k))))
      clear hb1
      go_wp2
      go_roundw
      case rel => exact ⟨k + 1, by omega, by go_num, by go_num, by rw [← HN.out]; exact HR1, HB1⟩
      case measure => simp [intOf]; omega
    · obtain rfl : k = l.length := by omega
      go_wp2
      go_ret
      exact ⟨rfl, HR.out, HB.out⟩

set_option maxRecDepth 100000 in
set_option maxHeartbeats 1000000 in
theorem heldStringS_any (v : Value) (l : List ByteArray) (hl : l.length ≤ 90) (B : Nat) (w : World) (h : RowS w B v (marked l l.length)) :
    Calls Try.prog 13 #[v, .int .i64 1] w fun e w' => e = .returned (.int .i64 (1 + (l.length : Int))) ∧ Below w.heap.size w w' := by
  obtain ⟨a, cap, rfl⟩ := h.form
  have hml := marked_len (l := l) (Nat.le_refl _)
  rw [hml]
  have H := Hid.intro h
  clear h
  go_enter Try.func13, Try.ntmps13
  go_wp2_with fail
  go_loopw [1, 5] (fun q i W => ∃ k : Nat, k ≤ l.length ∧ i = .int .i64 k ∧ q = .int .i64 (1 + (k : Int)) ∧ Hid (Below w.heap.size w W)) (fun _ i _ => l.length - (intOf i).toNat)
  case atStart => exact ⟨0, Nat.zero_le _, rfl, by simp, Below.refl _ _⟩
  case round =>
    obtain ⟨k, hk, rfl, rfl, HB⟩ := hrel
    by_cases hlt : k < l.length
    · obtain ⟨g, cap', e', hg, hgs, h1, h2, hx, hf⟩ := (H.out.below HB.out (Nat.le_refl _)).get (i := k) (by omega)
      rw [hml] at e' h1
      simp only [Value.slice.injEq, true_and] at e'
      obtain ⟨rfl, rfl⟩ := e'
      rw [marked_get hlt] at hx
      have HM := Hid.intro (markText_any (1 + k) (by omega) (by omega))
      have e1 : ((1 + k : Nat) : Int) = 1 + (k : Int) := by omega
      rw [e1] at HM
      unfold maxLen at h2
      have hk0 : (0 : Int) ≤ (k : Int) := by omega
      have hk1 : (k : Int) < (l.length : Int) := by omega
      clear hf
      generalize mt (1 + k) = y at hx HM
      go_wp2_with fail
      go_region_with (go_at_call 39; refine (HM.out _).mono ?_; rintro e w1 ⟨rfl, hb1⟩; have hx1 := (hb1.cell (p := ⟨g, k, none⟩) hgs).trans hx; have HB1 := Hid.intro (k_trans (k_drew HB.out) hb1); clear hb1)
      all_goals
        go_wp2
        go_roundw
        case rel => exact ⟨k + 1, by omega, by go_num, by go_num, HB1⟩
        case measure => simp [intOf]; omega
    · obtain rfl : k = l.length := by omega
      go_wp2
      go_ret
      exact ⟨rfl, HB.out⟩

set_option maxRecDepth 100000 in
set_option maxHeartbeats 1000000 in
theorem eqRowS_any (v1 v2 : Value) (l : List ByteArray) (hl : l.length ≤ 90) (B1 B2 : Nat) (w : World) (h1 : RowS w B1 v1 l) (h2 : RowS w B2 v2 l) :
    Calls Try.prog 11 #[v1, v2] w fun e w' => e = .returned (.bool true) ∧ ∃ n, w' = w.drewN n := by
  obtain ⟨a1, cap1, rfl⟩ := h1.form
  obtain ⟨a2, cap2, rfl⟩ := h2.form
  have hne : ((l.length : Int) != (l.length : Int)) = false := by simp
  have H1 := Hid.intro h1
  have H2 := Hid.intro h2
  clear h1 h2
  go_enter Try.func11, Try.ntmps11
  go_wp2_with fail
  go_loopw [5] (fun i W => ∃ k n : Nat, k ≤ l.length ∧ i = .int .i64 k ∧ W = w.drewN n) (fun i _ => l.length - (intOf i).toNat)
  case atStart => exact ⟨0, 0, Nat.zero_le _, rfl, rfl⟩
  case round =>
    obtain ⟨k, nd, hk, rfl, rfl⟩ := hrel
    by_cases hlt : k < l.length
    · obtain ⟨g1, cap1', e1, _, _, hc11, hc12, x0, _⟩ := H1.out.get hlt
      simp only [Value.slice.injEq, true_and] at e1
      obtain ⟨rfl, rfl⟩ := e1
      obtain ⟨g2, cap2', e2, _, _, hc21, hc22, y0, _⟩ := H2.out.get hlt
      simp only [Value.slice.injEq, true_and] at e2
      obtain ⟨rfl, rfl⟩ := e2
      unfold maxLen at hc12 hc22
      generalize l.getD k eS = x at x0 y0
      go_wp2_with fail
      go_quiet (fail)
      go_wp2
      go_roundw
      case rel => exact ⟨k + 1, nd + nq, by omega, by go_num, rfl⟩
      case measure => simp [intOf]; omega
    · go_wp2
      go_ret
      exact ⟨rfl, nd, rfl⟩
end Go.Proofs.Ytgnaaeonklongar
