/-
  PROVED HERE: a cell's line as both sides write it, its length, and what the program's listed answers of a name with two small numbers; nothing that was in memory is turned.
-/
import Derived.Test.YtggmjiddadjilaqDoorBrdTx0
import Derived.Test.YtggmjiddadjilaqDoorBldW
import Derived.Test.YtggmjiddadjilaqDoorCell
import Derived.Test.YtggmjiddadjilaqDoorTbl
import Derived.Test.YtggmjiddadjilaqDoorTblB
import Derived.Test.YtggmjiddadjilaqDoorMem
import Derived.Lib.SmallJoins
namespace Go.Proofs.YtggmjiddadjilaqDoor
open Go.RowKit

def bl : ByteArray := ⟨#[32]⟩
def cellX (x : C) : ByteArray := (⟨#[99, 101, 108, 108, 32]⟩ : ByteArray) ++ dg x.c ++ ⟨#[32]⟩ ++ dg x.r ++ ⟨#[32]⟩ ++ txtB x.a1 x.b1 ++ ⟨#[32]⟩ ++ txtB x.a2 x.b2 ++ ⟨#[32]⟩ ++ txtB x.a3 x.b3 ++ ⟨#[32]⟩ ++ txtB x.a4 x.b4 ++ ⟨#[32]⟩ ++ x.s
def cellT (x : C) : ByteArray := if cB x = true then cellX x else ⟨#[]⟩
/-- the name and two numbers -/
def lst2 (c r : Int) : ByteArray := (⟨#[99, 101, 108, 108]⟩ : ByteArray) ++ (⟨#[32]⟩ ++ dg c) ++ (⟨#[32]⟩ ++ dg r)
theorem txtB_size {a b : Int} (h : brdOkB a b = true) : (txtB a b).size = 2 := by rw [txtB, if_pos h]; rfl
theorem cB_parts {x : C} (h : cB x = true) : (1 ≤ x.c ∧ x.c ≤ 4) ∧ (1 ≤ x.r ∧ x.r ≤ 4) ∧ brdOkB x.a1 x.b1 = true ∧ brdOkB x.a2 x.b2 = true ∧ brdOkB x.a3 x.b3 = true ∧ brdOkB x.a4 x.b4 = true ∧ x.s.size ≤ 30 := by
  simp only [cB, cellOkB, Bool.and_eq_true, inB, decide_eq_true_eq] at h
  obtain ⟨hs, hc, hr, h1, h2, h3, h4⟩ := h
  refine ⟨hc, hr, h1, h2, h3, h4, ?_⟩
  simp only [txtOkB, Bool.and_eq_true, decide_eq_true_eq] at hs
  omega
theorem lst2_size (c r : Int) : (lst2 c r).size = 8 := rfl
theorem newBldW (w : World) : Lib.IsBuilder 57 5 w.heap.size w.heap.size (Lib.strCells ⟨#[]⟩) (w.alloc (.cells #[.pointer none, .slice none 0 0] 57)) :=
  Or.inl ⟨Nat.le_refl _, .slice none 0 0, newestB _ _, World.ownsRow_nil _ _ _ _, by simp [Value.ownBlock]⟩
theorem strCellsW (a b : ByteArray) : Lib.strCells (a ++ b) = Lib.strCells a ++ Lib.strCells b := by
  unfold Lib.strCells
  rw [Joins.data_append, List.map_append]
theorem ofListW (s : ByteArray) : (⟨s.data.toList.toArray⟩ : ByteArray) = s := by cases s; simp
theorem digit_any (n : Int) (h : 1 ≤ n ∧ n ≤ 4) (w : World) : Calls Tryd.prog 36 #[.int .i64 n] w fun e w' => e = .returned (.string (dg n)) ∧ w' = w := itoa_any n (by omega) (by omega) w
theorem lenW (y d : ByteArray) (h : y.size + (1 + d.size) ≤ 100) : (Lib.strCells y).length + ((⟨#[32]⟩ : ByteArray) ++ d).size ≤ 140737488355328 := by
  rw [Lib.strCells_length, ByteArray.size_append]
  have : (⟨#[32]⟩ : ByteArray).size = 1 := rfl
  omega
/-- what is written behind k numbers -/
def lstTo (c r : Int) : Nat → ByteArray
  | 0 => ⟨#[99, 101, 108, 108]⟩
  | 1 => (⟨#[99, 101, 108, 108]⟩ : ByteArray) ++ (⟨#[32]⟩ ++ dg c)
  | _ => lst2 c r

set_option maxRecDepth 100000 in
set_option maxHeartbeats 500000 in
theorem implListed2 (c r : Int) (hc : 1 ≤ c ∧ c ≤ 4) (hr : 1 ≤ r ∧ r ≤ 4) (b : Nat) (w : World) (h : w.heap[b]? = some (.cells #[.int .i64 c, .int .i64 r] 3)) :
    Calls Tryd.prog 17 #[.string ⟨#[99, 101, 108, 108]⟩, .slice (some ⟨b, 0, none⟩) 2 2] w fun e w' => e = .returned (.string (lst2 c r)) ∧ Below w.heap.size w w' := by
  have hlt := (Array.getElem?_eq_some_iff.1 h).1
  have HB0 := Hid.intro h
  have KA := k_alloc (Below.refl w.heap.size w) (.cells #[.pointer none, .slice none 0 0] 57)
  have HI0 := Hid.intro (newBldW w)
  have hs0 : w.heap.size ≤ (w.alloc (.cells #[.pointer none, .slice none 0 0] 57)).heap.size := by simp
  clear h
  go_enter Tryd.func17, Tryd.ntmps17
  go_wp2_with fail
  refine (writeString w.heap.size w.heap.size (Lib.strCells ⟨#[]⟩) ⟨#[99, 101, 108, 108]⟩ _ HI0.out (by decide) hs0).mono ?_
  rintro e w1 ⟨rfl, h1, hb1⟩
  have HI1 : Hid (Lib.IsBuilder 57 5 w.heap.size w.heap.size (Lib.strCells (lstTo c r 0)) w1) := Hid.intro (Or.inr h1)
  have HB1 := Hid.intro (KA.trans hb1)
  clear h1 hb1 HI0 KA hs0
  go_wp2_with fail
  go_loopw [7, 12] (fun _ i W => ∃ k : Nat, k ≤ 2 ∧ i = .int .i64 (k : Int) ∧ Hid (Lib.IsBuilder 57 5 w.heap.size w.heap.size (Lib.strCells (lstTo c r k)) W) ∧ Hid (Below w.heap.size w W)) (fun _ i _ => 2 - (intOf i).toNat)
  case atStart => exact ⟨0, by omega, rfl, HI1, HB1⟩
  case round =>
    obtain ⟨k, hk, rfl, HI, HB⟩ := hrel
    have hwz := HB.out.size
    obtain ⟨⟨c0, c1⟩, _⟩ : (wr.cell? ⟨b, 0, none⟩ = some (.int .i64 c) ∧ wr.cell? ⟨b, 1, none⟩ = some (.int .i64 r)) ∧ True := ⟨⟨Joins.cell_of_block ((HB.out.block b hlt).trans HB0.out) 0, Joins.cell_of_block ((HB.out.block b hlt).trans HB0.out) 1⟩, trivial⟩
    rcases (by omega : k = 0 ∨ k = 1 ∨ k = 2) with rfl | rfl | rfl
    · have HJ : Hid (Lib.strCells (lstTo c r 1) = Lib.strCells (lstTo c r 0) ++ Lib.strCells (⟨#[32]⟩ ++ dg c)) := Hid.intro (strCellsW _ _)
      have KD := Hid.intro (fun W => digit_any c hc W)
      have hdz : (dg c).size = 1 := rfl
      have hyz : (lstTo c r 0).size = 4 := rfl
      generalize lstTo c r 0 = y at HI HJ hyz
      generalize dg c = d at HJ KD hdz
      have hz1 : ¬ 9223372036854775807 < 1 + d.size := by omega
      have HLW := Hid.intro (lenW y d (by rw [hyz, hdz]; decide))
      clear hyz
      go_wp2_with fail
      refine (KD.out _).mono ?_
      rintro e w2 ⟨rfl, rfl⟩
      go_wp2_with fail
      have KW := writeString w.heap.size w.heap.size (Lib.strCells y) _ _ HI.out HLW.out hwz
      refine KW.mono ?_
      clear KW
      rintro e w3 ⟨rfl, h3, hb3⟩
      have HI3 : Hid (Lib.IsBuilder 57 5 w.heap.size w.heap.size (Lib.strCells (lstTo c r 1)) w3) := Hid.intro (by rw [HJ.out]; exact Or.inr h3)
      have HB3 := Hid.intro (HB.out.trans hb3)
      clear h3 hb3 c0 c1
      go_wp2
      go_roundw
      case rel => exact ⟨1, by omega, by go_num, HI3, HB3⟩
      case measure => simp [intOf]
    · have HJ : Hid (Lib.strCells (lstTo c r 2) = Lib.strCells (lstTo c r 1) ++ Lib.strCells (⟨#[32]⟩ ++ dg r)) := Hid.intro (strCellsW _ _)
      have KD := Hid.intro (fun W => digit_any r hr W)
      have hdz : (dg r).size = 1 := rfl
      have hyz : (lstTo c r 1).size = 6 := rfl
      generalize lstTo c r 1 = y at HI HJ hyz
      generalize dg r = d at HJ KD hdz
      have hz1 : ¬ 9223372036854775807 < 1 + d.size := by omega
      have HLW := Hid.intro (lenW y d (by rw [hyz, hdz]; decide))
      clear hyz
      go_wp2_with fail
      refine (KD.out _).mono ?_
      rintro e w2 ⟨rfl, rfl⟩
      go_wp2_with fail
      have KW := writeString w.heap.size w.heap.size (Lib.strCells y) _ _ HI.out HLW.out hwz
      refine KW.mono ?_
      clear KW
      rintro e w3 ⟨rfl, h3, hb3⟩
      have HI3 : Hid (Lib.IsBuilder 57 5 w.heap.size w.heap.size (Lib.strCells (lstTo c r 2)) w3) := Hid.intro (by rw [HJ.out]; exact Or.inr h3)
      have HB3 := Hid.intro (HB.out.trans hb3)
      clear h3 hb3 c0 c1
      go_wp2
      go_roundw
      case rel => exact ⟨2, by omega, by go_num, HI3, HB3⟩
      case measure => simp [intOf]
    · clear c0 c1
      generalize hy : lstTo c r 2 = y at HI
      have HY : Hid (lst2 c r = y) := hy
      clear hy
      go_wp2_with fail
      refine (Tryd.Builder_String_any w.heap.size w.heap.size y.data.toList _ HI.out hwz).mono ?_
      rw [ofListW]
      rintro e w1 ⟨rfl, hb1⟩
      have K1 := Hid.intro (HB.out.trans hb1)
      clear hb1
      go_wp2
      go_ret
      exact ⟨by rw [HY.out]; rfl, K1.out⟩
end Go.Proofs.YtggmjiddadjilaqDoor
