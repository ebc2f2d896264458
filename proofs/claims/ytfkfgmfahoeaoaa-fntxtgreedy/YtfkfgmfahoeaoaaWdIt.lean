/-
  PROVED HERE: the program's own iterator over the words of a text, for every loop that goes over it; nothing that was in memory is turned.
-/
import Derived.Test.YtfkfgmfahoeaoaaWd
import Derived.RangeFuncFrom
namespace Go.Proofs.Ytfkfgmfahoeaoaa
open Go.RowKit Go.Shelf
attribute [local go_sem] Oper.semAt_some

/-- what a round keeps: the text's own box -/
def BoxK (B : Nat) (W W' : World) : Prop := W'.heap[B]? = W.heap[B]?
theorem BoxK.trans {B : Nat} {a b c : World} (h : BoxK B a b) (k : BoxK B b c) : BoxK B a c := Eq.trans k h

set_option maxRecDepth 100000 in
set_option maxHeartbeats 1000000 in
theorem words1_in (l B : Nat) (s : ByteArray) (hs : s.size ≤ maxLen) (J Jx : List W30 → World → Prop)
    (hY : ∀ pre x W, J pre W → pre.length < (wordsW s).length → YieldAt Fence.wide 2 Try.prog l #[.string x.1] W fun e W' =>
      (e = .returned (.bool true) ∧ J (pre ++ [x]) W' ∧ BoxK B W W') ∨ (e = .returned (.bool false) ∧ Jx (pre ++ [x]) W'))
    (W : World) (hB : W.heap[B]? = some (.cells #[.string s] 9)) (h0 : J [] W) :
    CallsIn Fence.wide 3 Try.prog 43 #[.func (.yield l) #[] #[], .pointer (some ⟨B, 0, none⟩)] W fun e W' => (∃ v, e = .returned v) ∧
      ((∃ ys, ys = wordsW s ∧ J ys W') ∨ (∃ pre, pre <+: wordsW s ∧ Jx pre W')) := by
  have c0 : W.cell? ⟨B, 0, none⟩ = some (.string s) := by simp [World.cell?, hB]
  refine callsIn_of_wp Try.func43 rfl trivial ?_ rfl
  simp only [Try.ntmps43, List.size_toArray, List.length_cons, List.length_nil, Nat.reduceAdd, Nat.reduceSub, Array.replicate_succ, Array.replicate_zero, List.push_toArray, List.append_toArray, List.nil_append, List.cons_append]
  cases hok : txtOkB s with
  | false =>
    have hw0 : wordsW s = [] := by rw [wordsW, if_neg (by rw [hok]; simp)]
    gi_wp2_with (refine ⟨trivial, ?_⟩; gi_at_call 14; refine (callsIn_wide.2 (implTxtOk s _ hs)).mono ?_; rintro e w' ⟨rfl, rfl⟩; rw [hok])
    refine bodyPost_ret (results_none rfl _ _ _) rfl ?_
    exact ⟨⟨_, rfl⟩, .inl ⟨[], hw0.symm, h0⟩⟩
  | true =>
    have h30 : s.size ≤ 30 := ((txtOkB_iff s).1 hok).1
    have hw0 : wordsW s = (wordsFrom s 0).map toW := by rw [wordsW, if_pos hok]
    have HT : Hid (Start s 0) := start_zero hok
    gi_wp2_with (refine ⟨trivial, ?_⟩; gi_at_call 14; refine (callsIn_wide.2 (implTxtOk s _ hs)).mono ?_; rintro e w' ⟨rfl, rfl⟩; rw [hok])
    gi_loopw [3] (fun i wr => ∃ (k : Nat) (pre : List W30), i = .int .i64 k ∧ Hid (Start s k) ∧ Hid (wordsW s = pre ++ (wordsFrom s k).map toW) ∧ wr.heap[B]? = some (.cells #[.string s] 9) ∧ J pre wr) (fun i _ => s.size + 1 - (intOf i).toNat)
    case atStart => exact ⟨0, [], rfl, HT, by rw [List.nil_append]; exact hw0, hB, h0⟩
    case round =>
      obtain ⟨k, pre, rfl, HS, HW, hBr, hJ⟩ := hrel
      have cr : wr.cell? ⟨B, 0, none⟩ = some (.string s) := by simp [World.cell?, hBr]
      by_cases hlt : k < s.size
      · obtain ⟨h1, h2, h3, h4⟩ := start_next hok hlt HS.out
        have HN := Hid.intro h3
        have HG : Hid (wordsFrom s k = s.extract k (wend s k) :: wordsFrom s (wend s k + 1)) := wordsFrom_go hlt
        have HP : Hid (wordsW s = (pre ++ [⟨s.extract k (wend s k), h4⟩]) ++ (wordsFrom s (wend s k + 1)).map toW) := by
          show wordsW s = _
          rw [HW.out, HG.out, List.map_cons, toW_of h4]; simp
        have hlen : pre.length < (wordsW s).length := by rw [HP.out]; simp
        obtain ⟨fn, tmps, assign, body, hy, hR⟩ := hY pre ⟨s.extract k (wend s k), h4⟩ wr hJ hlen
        dsimp only at hy
        have HE := implWordEnd s k (by omega) h30 wr
        generalize wend s k = m at *
        clear h3
        gi_wp2_with (refine ⟨trivial, ?_⟩; gi_at_call 44; refine (callsIn_wide.2 HE).mono ?_; rintro e w' ⟨rfl, rfl⟩)
        refine hR.mono ?_
        rintro e W3 (⟨rfl, hJ3, hk3⟩ | ⟨rfl, hJx3⟩)
        · have hB3 := Eq.trans hk3 hBr
          gi_wp2
          go_roundw
          case rel => exact ⟨m + 1, _, by go_num, HN, HP, hB3, hJ3⟩
          case measure => simp [intOf]; omega
        · gi_wp2
          refine bodyPost_ret (results_none rfl _ _ _) rfl ?_
          exact ⟨⟨_, rfl⟩, .inr ⟨_, ⟨_, HP.out.symm⟩, hJx3⟩⟩
      · have HZ : Hid (wordsFrom s k = []) := wordsFrom_end hlt
        gi_wp2
        go_end0
        exact ⟨⟨_, rfl⟩, .inl ⟨pre, by rw [HW.out, HZ.out]; simp, hJ⟩⟩

/-- what the value that wordsOf hands back does, whatever loop goes over it -/
theorem words_stops (B : Nat) (s : ByteArray) (hs : s.size ≤ maxLen) (w : World) (hBn : B < w.heap.size) (hc : w.heap[B]? = some (.cells #[.string s] 9)) :
    SeqStopsK Fence.wide 3 Try.prog 43 #[.pointer (some ⟨B, 0, none⟩)] (fun x : W30 => #[Value.string x.1]) (BoxK B) (fun ys => ys = wordsW s) (fun pre => pre <+: wordsW s) (wordsW s).length w := fun l J Jx W hW _ _ hY h0 =>
  words1_in l B s hs J Jx hY W ((hW.block B hBn).trans hc) h0

theorem BoxK_b {B : Nat} {w : World} (h : B < w.heap.size) (W : World) (l : Nat) (o o' : Obj) (hl : w.heap.size ≤ l) (_ : W.heap[l]? = some o) (_ : o.isCells = false) (_ : o.isWalk = false) : BoxK B W (W.putObj l o') := by
  show (W.putObj l o').heap[B]? = W.heap[B]?
  simp only [World.putObj]
  rw [Array.getElem?_setIfInBounds_ne (by omega)]
theorem cell_of_box_l {W : World} {B : Nat} {v : Value} {t : TypeId} (h : W.heap[B]? = some (.cells #[v] t (0, 0))) : W.cell? ⟨B, 0, none⟩ = some v ∧ W.frozen? ⟨B, 0, none⟩ = false := by
  constructor <;> simp [World.cell?, World.frozen?, h]
theorem cell_new_l (W : World) (v : Value) (t : TypeId) : (W.alloc (.cells #[v] t)).cell? ⟨W.heap.size, 0, none⟩ = some v ∧ (W.alloc (.cells #[v] t)).frozen? ⟨W.heap.size, 0, none⟩ = false :=
  cell_of_box_l (World.alloc_heap_new W _)
theorem cell_alloc_l {W : World} {a : Addr} {v : Value} (o : Obj) (h : W.cell? a = some v) : (W.alloc o).cell? a = some v := cell_kept h (World.grownBy_alloc W o none) (fun r e => by cases e)
theorem frozen_alloc_l {W : World} {a : Addr} {v : Value} (o : Obj) (h : W.cell? a = some v) (hf : W.frozen? a = false) : (W.alloc o).frozen? a = false := (frozen_kept h (World.grownBy_alloc W o none) (fun r e => by cases e)).trans hf
end Go.Proofs.Ytfkfgmfahoeaoaa
