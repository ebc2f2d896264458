/-
  PROVED HERE: a region that draws its order may be walked by what holds between two of its operations, whichever have been carried out. Also: the drawing of a text (l20Text, l20AnyText) gives some short string, and turns nothing that was in memory but the reader.
-/
import Derived.Test.YtggmjiddadjilalB6
import Derived.Test.YtggmjiddadjilalB7
import Derived.Orders
import Derived.Lib.Strings
import Derived.Deep.RegionWith
namespace Go.Proofs.Ytggmjiddadjilal
open Go.RowKit

/-- a block of the call's own -/
def Hp (n0 : Nat) (w : World) (g : Nat) (o : Obj) : Prop := n0 ≤ g ∧ w.heap[g]? = some o
theorem Hp.lt {n0 g : Nat} {w : World} {o : Obj} (h : Hp n0 w g o) : g < w.heap.size := (Array.getElem?_eq_some_iff.1 h.2).1
theorem Hp.bk {n0 g r : Nat} {w w' : World} {o : Obj} (h : Hp n0 w g o) (hr : r < n0) (k : Bk r w w') : Hp n0 w' g o := ⟨h.1, (k.block g h.lt (by have := h.1; omega)).trans h.2⟩
theorem Hp.alloc {n0 g : Nat} {w : World} {o : Obj} (h : Hp n0 w g o) (q : Obj) : Hp n0 (w.alloc q) g o := ⟨h.1, (Below.heap_alloc _ _ _ h.lt).trans h.2⟩
theorem Hp.new {n0 : Nat} {w : World} (h : n0 ≤ w.heap.size) (q : Obj) : Hp n0 (w.alloc q) w.heap.size q := ⟨h, by show (w.heap.push q)[w.heap.size]? = _; simp⟩
/-- a number within bounds -/
def PI (lo hi : Int) (u : Value) : Prop := ∃ k : Int, u = .int .i64 k ∧ lo ≤ k ∧ k ≤ hi
/-- a short text -/
def PS (n : Nat) (u : Value) : Prop := ∃ s : ByteArray, u = .string s ∧ s.size ≤ n
/-- a list of numbers that has been written out -/
def PL (n0 : Nat) (w : World) (n : Nat) (arr : Array Value) (u : Value) : Prop := ∃ g, u = .slice (some ⟨g, 0, none⟩) n n ∧ Hp n0 w g (.cells arr 3)
/-- a place in such a list -/
def PA (n0 : Nat) (w : World) (lo hi : Int) (u : Value) : Prop := ∃ g k arr, u = .pointer (some ⟨g, k, none⟩) ∧ Hp n0 w g (.cells arr 3) ∧ ∃ v : Int, arr[k]? = some (.int .i64 v) ∧ lo ≤ v ∧ v ≤ hi
theorem PL.bk {n0 n r : Nat} {w w' : World} {arr : Array Value} {u : Value} (h : PL n0 w n arr u) (hr : r < n0) (k : Bk r w w') : PL n0 w' n arr u := by
  obtain ⟨g, e, hg⟩ := h; exact ⟨g, e, hg.bk hr k⟩
theorem PA.bk {n0 r : Nat} {w w' : World} {lo hi : Int} {u : Value} (h : PA n0 w lo hi u) (hr : r < n0) (k : Bk r w w') : PA n0 w' lo hi u := by
  obtain ⟨g, k', arr, e, hg, hv⟩ := h; exact ⟨g, k', arr, e, hg.bk hr k, hv⟩
theorem bk_alloc (r : Nat) (w : World) (o : Obj) : Bk r w (w.alloc o) := (Bk.refl r w).alloc o
end Go.Proofs.Ytggmjiddadjilal
namespace Go.Proofs.Ytggmjiddadjilal
open Go.RowKit

theorem lit7 (s0 s1 s2 s3 s4 s5 s6 : ByteArray) (n : Nat) (h : s0.size ≤ n ∧ s1.size ≤ n ∧ s2.size ≤ n ∧ s3.size ≤ n ∧ s4.size ≤ n ∧ s5.size ≤ n ∧ s6.size ≤ n) (k : Int) (h0 : 0 ≤ k) (h1 : k < 7) :
    ∃ v : ByteArray, v.size ≤ n ∧ (#[Value.string s0, .string s1, .string s2, .string s3, .string s4, .string s5, .string s6] : Array Value)[k.toNat]? = some (.string v) ∧ ∀ h, ([Value.string s0, .string s1, .string s2, .string s3, .string s4, .string s5, .string s6] : List Value)[k.toNat]'h = .string v := by
  rcases (by omega : k = 0 ∨ k = 1 ∨ k = 2 ∨ k = 3 ∨ k = 4 ∨ k = 5 ∨ k = 6) with rfl | rfl | rfl | rfl | rfl | rfl | rfl
  · exact ⟨s0, h.1, rfl, fun _ => rfl⟩
  · exact ⟨s1, h.2.1, rfl, fun _ => rfl⟩
  · exact ⟨s2, h.2.2.1, rfl, fun _ => rfl⟩
  · exact ⟨s3, h.2.2.2.1, rfl, fun _ => rfl⟩
  · exact ⟨s4, h.2.2.2.2.1, rfl, fun _ => rfl⟩
  · exact ⟨s5, h.2.2.2.2.2.1, rfl, fun _ => rfl⟩
  · exact ⟨s6, h.2.2.2.2.2.2, rfl, fun _ => rfl⟩
theorem toListNil {s : ByteArray} (h : s.size = 0) : s.toList = [] := by
  rw [Lib.toList_data]; exact List.eq_nil_of_length_eq_zero (by simpa using h)
theorem sizeNil {s : ByteArray} (h : s.toList = []) : s.size = 0 := by
  rw [Lib.toList_data] at h; have := congrArg List.length h; simpa using this
theorem three_size {s v : ByteArray} {q : Nat} (hs : s.size ≤ 30) (hq : q ≤ s.size) (hv : v.size ≤ 31) : (s.extract 0 q ++ v ++ s.extract q s.size).size ≤ 61 := by
  rw [ByteArray.size_append, ByteArray.size_append, ByteArray.size_extract, ByteArray.size_extract]; omega
theorem newestT (w : World) (q : Obj) : (w.alloc q).heap[w.heap.size]? = some q := by show (w.heap.push q)[w.heap.size]? = _; simp

/-- the words that are drawn from, in the block g -/
def WordsAt (w : World) (g : Nat) : Prop := w.heap[g]? = some (.cells #[.string ⟨#[97]⟩, .string ⟨#[97, 110]⟩, .string ⟨#[116, 104, 101]⟩, .string ⟨#[111, 118, 101, 114]⟩, .string ⟨#[117, 110, 100, 101, 114]⟩, .string ⟨#[109, 101, 97, 100, 111, 119]⟩, .string ⟨#[108, 105, 103, 104, 116, 104, 111, 117, 115, 101]⟩] 9)

set_option maxRecDepth 100000 in
set_option maxHeartbeats 2000000 in
theorem l20Text_any (r B : Nat) (w : World) (h : Rd w r B) (hB : B ≤ 900000) :
    Calls Try.prog 55 #[.pointer (some ⟨r, 0, none⟩)] w fun e w' => ∃ s : ByteArray, e = .returned (.string s) ∧ s.size ≤ 30 ∧ Rd w' r (B + 6) ∧ Bk r w w' := by
  have hlt := h.lt
  have hr0 : w.heap.size ≠ r := by omega
  have HR : Hid (Rd w r B) := h
  clear h
  go_enter Try.func55, Try.ntmps55
  go_wp2_with fail
  refine (pick_any r B _ _ (Rd.alloc HR.out _) (by omega)).mono ?_
  rintro e w1 ⟨k1, rfl, hk1, hR1, hb1⟩
  obtain ⟨hk1a, hk1b⟩ := hk1 (by omega)
  have hz1 := hb1.size
  simp at hz1
  have W1 := Hid.intro ((hb1.block w.heap.size (by simp) hr0).trans (newestT _ _))
  have HR1 : Hid (Rd w1 r (B + 1)) := hR1
  have HB1 : Hid (Bk r w w1) := Bk.trans (Bk.alloc (Bk.refl r w) _) hb1
  clear hk1 hR1 hb1
  have HW1 : Hid (WordsAt w1 w.heap.size) := W1.out
  obtain ⟨q1, rfl⟩ := Int.eq_ofNat_of_zero_le hk1a
  clear W1
  go_wp2_with fail
  go_loopw [4, 5, 6] (fun s k _ W => ∃ (t : ByteArray) (q : Nat), s = .string t ∧ k = .int .i64 q ∧ t.size ≤ 30 ∧ q ≤ 5 ∧ w.heap.size + 1 ≤ W.heap.size ∧ Hid (Rd W r (B + 6 - q)) ∧ Hid (Bk r w W) ∧ Hid (WordsAt W w.heap.size)) (fun _ k _ _ => (intOf k).toNat)
  case atStart => exact ⟨_, q1, rfl, rfl, by decide, by omega, by omega, Rd.mono HR1.out (by omega), HB1, HW1⟩
  case round =>
    obtain ⟨t, q, rfl, rfl, ht, hq, hsz, HRr, HBr, HWr⟩ := hrel
    by_cases hq0 : q = 0
    · subst hq0
      go_wp2
      go_ret
      exact ⟨t, rfl, ht, HRr.out, HBr.out⟩
    · have hq1 : (0 : Int) < (q : Int) := by omega
      go_wp2_with fail
      refine (pick_any r (B + 6 - q) _ _ HRr.out (by omega)).mono ?_
      rintro e w2 ⟨k2, rfl, hk2, hR2, hb2⟩
      obtain ⟨hk2a, hk2b⟩ := hk2 (by omega)
      have W2 : WordsAt w2 w.heap.size := (hb2.block w.heap.size (by omega) hr0).trans HWr.out
      obtain ⟨v, hv, hl, _⟩ := lit7 ⟨#[97]⟩ ⟨#[97, 110]⟩ ⟨#[116, 104, 101]⟩ ⟨#[111, 118, 101, 114]⟩ ⟨#[117, 110, 100, 101, 114]⟩ ⟨#[109, 101, 97, 100, 111, 119]⟩ ⟨#[108, 105, 103, 104, 116, 104, 111, 117, 115, 101]⟩ 10 (by decide) k2 hk2a hk2b
      have hcv : w2.cell? ⟨w.heap.size, k2.toNat, none⟩ = some (.string v) := (Joins.cell_of_block W2 _).trans hl
      have HW2 : Hid (WordsAt w2 w.heap.size) := W2
      have HR2 : Hid (Rd w2 r (B + 6 - (q - 1))) := Rd.mono hR2 (by omega)
      have HB2 : Hid (Bk r w w2) := Bk.trans HBr.out hb2
      have hz2 : w.heap.size + 1 ≤ w2.heap.size := by have := hb2.size; omega
      clear hk2 hR2 hb2 W2 hl HRr HBr HWr
      by_cases h0 : t.size = 0
      · have he : t.toList = [] := toListNil h0
        go_wp2
        go_roundw
        case rel => exact ⟨v, q - 1, rfl, by go_num, by omega, by omega, hz2, HR2, HB2, HW2⟩
        case measure => simp [intOf]; omega
      · have he : ¬ t.toList = [] := fun h => h0 (sizeNil h)
        have he2 : t.toList.isEmpty = false := by simpa using he
        by_cases h30 : t.size + 1 + v.size ≤ 30
        · have h30' : (t.size : Int) + 1 + (v.size : Int) ≤ 30 := by omega
          go_wp2
          go_roundw
          case rel => exact ⟨_, q - 1, rfl, by go_num, by rw [ByteArray.size_append, ByteArray.size_append]; have : (ByteArray.mk #[32]).size = 1 := rfl; omega, by omega, hz2, HR2, HB2, HW2⟩
          case measure => simp [intOf]; omega
        · have h30' : ¬ (t.size : Int) + 1 + (v.size : Int) ≤ 30 := by omega
          go_wp2
          go_roundw
          case rel => exact ⟨t, q - 1, rfl, by go_num, ht, by omega, hz2, HR2, HB2, HW2⟩
          case measure => simp [intOf]; omega

set_option maxRecDepth 100000 in
set_option maxHeartbeats 2000000 in
theorem l20AnyText_any (r B : Nat) (n : Int) (hn : 1 ≤ n) (w : World) (h : Rd w r B) (hB : B ≤ 800000) :
    Calls Try.prog 30 #[.pointer (some ⟨r, 0, none⟩), .int .i64 n] w fun e w' => ∃ s : ByteArray, e = .returned (.string s) ∧ s.size ≤ 61 ∧ Rd w' r (B + 9) ∧ Bk r w w' := by
  have hlt := h.lt
  have HR : Hid (Rd w r B) := h
  clear h
  go_enter Try.func30, Try.ntmps30
  go_wp2_with fail
  refine (l20Text_any r B _ HR.out (by omega)).mono ?_
  rintro e w1 ⟨s, rfl, hs, hR1, hb1⟩
  have HR1 := Hid.intro hR1
  have HB1 := Hid.intro hb1
  have hz1 := hb1.size
  clear hR1 hb1
  go_wp2_with fail
  refine (pick_any r (B + 6) _ _ HR1.out (by omega)).mono ?_
  rintro e w2 ⟨k2, rfl, hk2, hR2, hb2⟩
  obtain ⟨hk2a, hk2b⟩ := hk2 (by omega)
  have HR2 := Hid.intro hR2
  have HB2 := Hid.intro (Bk.trans HB1.out hb2)
  have hz2 := hb2.size
  clear hR2 hb2 hk2 HR1 HB1
  by_cases h2 : 0 < k2
  · go_wp2
    go_ret
    exact ⟨s, rfl, by omega, Rd.mono HR2.out (by omega), HB2.out⟩
  · go_wp2_with fail
    refine (pick_any r (B + 7) _ _ HR2.out (by omega)).mono ?_
    rintro e w3 ⟨k3, rfl, hk3, hR3, hb3⟩
    obtain ⟨hk3a, hk3b⟩ := hk3 (by omega)
    obtain ⟨q, rfl⟩ := Int.eq_ofNat_of_zero_le hk3a
    have HR3 := Hid.intro hR3
    have HB3 := Hid.intro (Bk.trans HB2.out hb3)
    have hz3 := hb3.size
    clear hR3 hb3 hk3 HR2 HB2
    have hq : (q : Int) ≤ (s.size : Int) := by omega
    have hq' : q ≤ s.size := by omega
    go_wp2_with fail
    have hlr : w3.heap.size ≠ r := by omega
    go_region_with (first
      | (go_at_call 38; refine (pick_any r (B + 8) _ _ (Rd.drew (Rd.alloc HR3.out _)) (by omega)).mono ?_; rintro e w4 ⟨k4, rfl, hk4, hR4, hb4⟩; obtain ⟨hk4a, hk4b⟩ := hk4 (by omega); obtain ⟨v, hv, hl, _⟩ := lit7 ⟨#[32]⟩ ⟨#[32, 32]⟩ ⟨#[65]⟩ ⟨#[49]⟩ ⟨#[45]⟩ ⟨#[0]⟩ ⟨#[97, 98, 99, 100, 101, 102, 103, 104, 105, 106, 97, 98, 99, 100, 101, 102, 103, 104, 105, 106, 97, 98, 99, 100, 101, 102, 103, 104, 105, 106, 120]⟩ 31 (by decide) k4 hk4a hk4b; have hcv : w4.cell? ⟨w3.heap.size, k4.toNat, none⟩ = some (.string v) := (Joins.cell_of_block ((hb4.block w3.heap.size (by simp) hlr).trans (newestT _ _)) _).trans hl; have HR4 := Hid.intro hR4; have HB4 := Hid.intro (Bk.trans (Bk.drew (Bk.alloc HB3.out _)) hb4); clear hk4 hR4 hb4 hl)
      | (go_at_call 38; refine (pick_any r (B + 8) _ _ (Rd.drew HR3.out) (by omega)).mono ?_; rintro e w4 ⟨k4, rfl, hk4, hR4, hb4⟩; obtain ⟨hk4a, hk4b⟩ := hk4 (by omega); obtain ⟨v, hv, hl, hge⟩ := lit7 ⟨#[32]⟩ ⟨#[32, 32]⟩ ⟨#[65]⟩ ⟨#[49]⟩ ⟨#[45]⟩ ⟨#[0]⟩ ⟨#[97, 98, 99, 100, 101, 102, 103, 104, 105, 106, 97, 98, 99, 100, 101, 102, 103, 104, 105, 106, 97, 98, 99, 100, 101, 102, 103, 104, 105, 106, 120]⟩ 31 (by decide) k4 hk4a hk4b; have HR4 := Hid.intro hR4; have HB4 := Hid.intro (Bk.trans (Bk.drew HB3.out) hb4); clear hk4 hR4 hb4 hl))
    all_goals
      go_wp2
      go_ret
      exact ⟨_, rfl, three_size hs hq' hv, by first | exact HR4.out | exact Rd.alloc HR4.out _, by first | exact HB4.out | exact Bk.alloc HB4.out _⟩
end Go.Proofs.Ytggmjiddadjilal
