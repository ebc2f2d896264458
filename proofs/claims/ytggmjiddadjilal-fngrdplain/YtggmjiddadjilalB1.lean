/-
  PROVED HERE: small laws on what a call leaves as it was, for the other texts of this claim. Also: small facts for loops over an iterator: what a round keeps of a box; a box's cell behind what is laid since. Also: the program's own iterator over the slots of a cell, for every loop that goes over it; nothing that was in memory is turned. Also: the program's map of the slots that cells have: what it holds behind one slot more; nothing else is turned.
-/
import Derived.Test.YtggmjiddadjilalRows
import Derived.WalkKit
import Derived.ProofKit
import Derived.Below
import Derived.Deep.Draws
import Derived.RangeFuncNested
import Derived.RangeFuncBound
import Derived.RangeFuncCalls
import Derived.RangeFuncLeaves
import Derived.Shelf.Abstract
import Derived.Shelf.RegionOpen
import Derived.OwnWalkIn
import Derived.TacticsInMore
import Derived.LoopNIn
import Derived.LoopIn
import Derived.RangeFuncFrom
import Derived.Maps.OwnIn
import Derived.WideKeyEntry
import Derived.DeepKeys4
import Derived.Maps.Views
namespace Go.Proofs.Ytggmjiddadjilal
open Go.RowKit

theorem own : ownKnob Try.prog.godebug = none := by kernel_rfl
theorem laidOut : laidOutB Try.prog = true := by kernel_rfl
theorem bcell {W w1 : World} (hb : Below W.heap.size W w1) : (∀ b o, b < W.heap.size → w1.cell? ⟨b, o, none⟩ = W.cell? ⟨b, o, none⟩) ∧ (∀ b o, b < W.heap.size → w1.frozen? ⟨b, o, none⟩ = W.frozen? ⟨b, o, none⟩) :=
  ⟨fun b o h => hb.cell (p := ⟨b, o, none⟩) h, fun b o h => hb.frozen (p := ⟨b, o, none⟩) h⟩
theorem Hid.intro {p : Prop} (h : p) : Hid p := h
theorem k_alloc {a w : World} (h : Below a.heap.size a w) (o : Obj) : Below a.heap.size a (w.alloc o) := h.alloc h.size o
theorem k_drew {a w : World} (h : Below a.heap.size a w) : Below a.heap.size a w.drew := h.drew
theorem k_drewN {a w : World} (h : Below a.heap.size a w) (n : Nat) : Below a.heap.size a (w.drewN n) := ⟨h.os, h.tape, h.output, h.size, h.block⟩
theorem k_set {a w : World} (h : Below a.heap.size a w) {p : Addr} (hp : a.heap.size ≤ p.block) (u : Value) : Below a.heap.size a (w.setCell p u) := h.setCell hp u
theorem k_trans {a b c : World} (h : Below a.heap.size a b) (k : Below b.heap.size b c) : Below a.heap.size a c := h.trans (k.mono h.size)
end Go.Proofs.Ytggmjiddadjilal
namespace Go.Proofs.Ytggmjiddadjilal
open Go.RowKit Go.Shelf

/-- what a round keeps: the text's own box -/
def BoxK (B : Nat) (W W' : World) : Prop := W'.heap[B]? = W.heap[B]?
theorem BoxK.trans {B : Nat} {a b c : World} (h : BoxK B a b) (k : BoxK B b c) : BoxK B a c := Eq.trans k h

theorem BoxK_b {B : Nat} {w : World} (h : B < w.heap.size) (W : World) (l : Nat) (o o' : Obj) (hl : w.heap.size ≤ l) (_ : W.heap[l]? = some o) (_ : o.isCells = false) (_ : o.isWalk = false) : BoxK B W (W.putObj l o') := by
  show (W.putObj l o').heap[B]? = W.heap[B]?
  simp only [World.putObj]
  rw [Array.getElem?_setIfInBounds_ne (by omega)]
theorem cell_of_box_l {W : World} {B : Nat} {v : Value} {t : TypeId} (h : W.heap[B]? = some (.cells #[v] t (0, 0))) : W.cell? ⟨B, 0, none⟩ = some v ∧ W.frozen? ⟨B, 0, none⟩ = false := by
  constructor <;> simp [World.cell?, World.frozen?, h]
theorem cell_new_l (W : World) (v : Value) (t : TypeId) : (W.alloc (.cells #[v] t)).cell? ⟨W.heap.size, 0, none⟩ = some v ∧ (W.alloc (.cells #[v] t)).frozen? ⟨W.heap.size, 0, none⟩ = false :=
  cell_of_box_l (World.alloc_heap_new W _)
theorem cell_alloc_l {W : World} {a : Addr} {v : Value} (o : Obj) (h : W.cell? a = some v) : (W.alloc o).cell? a = some v := cell_kept h (World.grownBy_alloc W o none) (fun r e => by cases e)
theorem frozen_alloc_l {W : World} {a : Addr} {v : Value} (o : Obj) (h : W.cell? a = some v) (hf : W.frozen? a = false) : (W.alloc o).frozen? a = false := (frozen_kept h (World.grownBy_alloc W o none) (fun r e => by cases e)).trans hf
end Go.Proofs.Ytggmjiddadjilal
namespace Go.Proofs.Ytggmjiddadjilal
open Go.RowKit Go.Shelf
attribute [local go_sem] Oper.semAt_some

/-- a slot: row and column, neither great -/
abbrev Sl := { x : Nat × Nat // x.1 ≤ 1000 ∧ x.2 ≤ 1000 }
def toSl (r c : Nat) : Sl := if h : r ≤ 1000 ∧ c ≤ 1000 then ⟨(r, c), h⟩ else ⟨(0, 0), by simp⟩
theorem toSl_of {r c : Nat} (h : r ≤ 1000 ∧ c ≤ 1000) : toSl r c = ⟨(r, c), h⟩ := dif_pos h
theorem toSl_val {r c : Nat} (h : r ≤ 1000 ∧ c ≤ 1000) : (toSl r c).1 = (r, c) := by rw [toSl_of h]
/-- a slot in memory -/
def slV (x : Nat × Nat) : Value := .agg #[.int .i64 x.1, .int .i64 x.2]
/-- the first so many slots of a row, from a column on -/
def rowSl (r c a : Nat) : List Sl := (List.range a).map fun j => toSl r (c + j)
/-- the slots of the first so many rows -/
def rowsSl (r c cs d : Nat) : List Sl := (List.range d).flatMap fun i => rowSl (r + i) c cs
theorem rowSl_succ (r c a : Nat) : rowSl r c (a + 1) = rowSl r c a ++ [toSl r (c + a)] := by simp [rowSl, List.range_succ]
theorem rowsSl_succ (r c cs d : Nat) : rowsSl r c cs (d + 1) = rowsSl r c cs d ++ rowSl (r + d) c cs := by simp [rowsSl, List.range_succ]
theorem rowSl_pre {r c a b : Nat} (h : a ≤ b) : rowSl r c a <+: rowSl r c b := by
  obtain ⟨k, rfl⟩ := Nat.exists_eq_add_of_le h
  simp only [rowSl, List.range_add, List.map_append]
  exact List.prefix_append _ _
theorem rowsSl_pre {r c cs a b : Nat} (h : a ≤ b) : rowsSl r c cs a <+: rowsSl r c cs b := by
  obtain ⟨k, rfl⟩ := Nat.exists_eq_add_of_le h
  simp only [rowsSl, List.range_add, List.flatMap_append]
  exact List.prefix_append _ _
/-- one slot more is still ahead of the end -/
theorem slots_pre {r c cs d a rs : Nat} (hd : d < rs) (ha : a < cs) : (rowsSl r c cs d ++ rowSl (r + d) c a) ++ [toSl (r + d) (c + a)] <+: rowsSl r c cs rs := by
  rw [List.append_assoc, ← rowSl_succ]
  refine List.IsPrefix.trans ?_ (rowsSl_pre (Nat.succ_le_of_lt hd))
  rw [rowsSl_succ]
  exact (List.prefix_append_right_inj _).2 (rowSl_pre ha)
theorem slots_len {r c cs d a rs : Nat} (hd : d < rs) (ha : a < cs) : (rowsSl r c cs d ++ rowSl (r + d) c a).length < (rowsSl r c cs rs).length := by
  have := (slots_pre (r := r) (c := c) hd ha).length_le
  simp only [List.length_append, List.length_cons, List.length_nil] at this ⊢
  omega

/-- the five numbers of a cell at its place, in memory -/
def gcObj (r c rs cs : Nat) (i : Int) : Obj := .cells #[.int .i64 r, .int .i64 c, .int .i64 rs, .int .i64 cs, .int .i64 i] 54

set_option maxRecDepth 100000 in
set_option maxHeartbeats 1000000 in
theorem slots1_in (l B : Nat) (r c rs cs : Nat) (iv : Int) (hr : r + rs ≤ 1000) (hc : c + cs ≤ 1000) (J Jx : List Sl → World → Prop)
    (hY : ∀ pre x W, J pre W → pre.length < (rowsSl r c cs rs).length → YieldAt Fence.wide 2 Try.prog l #[slV x.1] W fun e W' =>
      (e = .returned (.bool true) ∧ J (pre ++ [x]) W' ∧ BoxK B W W') ∨ (e = .returned (.bool false) ∧ Jx (pre ++ [x]) W'))
    (W : World) (hB : W.heap[B]? = some (gcObj r c rs cs iv)) (h0 : J [] W) :
    CallsIn Fence.wide 3 Try.prog 72 #[.func (.yield l) #[] #[], .pointer (some ⟨B, 0, none⟩)] W fun e W' => (∃ v, e = .returned v) ∧
      ((∃ ys, ys = rowsSl r c cs rs ∧ J ys W') ∨ (∃ pre, pre <+: rowsSl r c cs rs ∧ Jx pre W')) := by
  have c0 : W.cell? ⟨B, 2, none⟩ = some (.int .i64 rs) := by simp [World.cell?, hB, gcObj]
  refine callsIn_of_wp Try.func72 rfl trivial ?_ rfl
  simp only [Try.ntmps72, List.size_toArray, List.length_cons, List.length_nil, Nat.reduceAdd, Nat.reduceSub, Array.replicate_succ, Array.replicate_zero, List.push_toArray, List.append_toArray, List.nil_append, List.cons_append]
  gi_wp2
  gi_loopw [7] (fun i wr => ∃ d : Nat, i = .int .i64 d ∧ d ≤ rs ∧ wr.heap[B]? = some (gcObj r c rs cs iv) ∧ J (rowsSl r c cs d) wr) (fun i _ => rs + 1 - (intOf i).toNat)
  case atStart => exact ⟨0, rfl, by omega, hB, h0⟩
  case round =>
    obtain ⟨d, rfl, hd, hBr, hJ⟩ := hrel
    have c1 : wr.cell? ⟨B, 3, none⟩ = some (.int .i64 cs) := by simp [World.cell?, hBr, gcObj]
    by_cases hlt : d < rs
    · gi_wp2
      gi_loopw [12] (fun i wq => ∃ a : Nat, i = .int .i64 a ∧ a ≤ cs ∧ wq.heap[B]? = some (gcObj r c rs cs iv) ∧ J (rowsSl r c cs d ++ rowSl (r + d) c a) wq) (fun i _ => cs + 1 - (intOf i).toNat)
      case atStart => exact ⟨0, rfl, by omega, hBr, by simpa [rowSl] using hJ⟩
      case round =>
        obtain ⟨a, rfl, ha, hBq, hJq⟩ := hrel
        by_cases hla : a < cs
        · have d0 : wr.cell? ⟨B, 0, none⟩ = some (.int .i64 r) := by simp [World.cell?, hBq, gcObj]
          have d1 : wr.cell? ⟨B, 1, none⟩ = some (.int .i64 c) := by simp [World.cell?, hBq, gcObj]
          have hx : (toSl (r + d) (c + a)).1 = (r + d, c + a) := toSl_val (by omega)
          obtain ⟨fn, tmps, assign, body, hy, hR⟩ := hY _ (toSl (r + d) (c + a)) wr hJq (slots_len hlt hla)
          rw [hx] at hy
          dsimp only [slV] at hy
          clear hx
          have HP := Hid.intro (slots_pre (r := r) (c := c) hlt hla)
          have HS := Hid.intro (rowSl_succ (r + d) c a)
          have e1 : ((r + d : Nat) : Int) = (r : Int) + d := by omega
          have e2 : ((c + a : Nat) : Int) = (c : Int) + a := by omega
          simp only [e1, e2] at hy
          clear e1 e2
          gi_wp2
          refine hR.mono ?_
          rintro e W3 (⟨rfl, hJ3, hk3⟩ | ⟨rfl, hJx3⟩)
          · have hB3 := Eq.trans hk3 hBq
            gi_wp2
            go_roundw
            case rel => exact ⟨a + 1, by go_num, by omega, hB3, by rw [HS.out, ← List.append_assoc]; exact hJ3⟩
            case measure => simp [intOf]; omega
          · gi_wp2
            refine bodyPost_ret (results_none rfl _ _ _) rfl ?_
            exact ⟨⟨_, rfl⟩, .inr ⟨_, HP.out, hJx3⟩⟩
        · have ea : Hid (a = cs) := Hid.intro (by omega)
          have HS := Hid.intro (rowsSl_succ r c cs d)
          gi_wp2
          go_roundw
          case rel => exact ⟨d + 1, by go_num, by omega, hBq, by have h := hJq; rw [ea.out] at h; rw [HS.out]; exact h⟩
          case measure => simp [intOf]; omega
    · have ed : Hid (d = rs) := Hid.intro (by omega)
      gi_wp2
      go_end0
      exact ⟨⟨_, rfl⟩, .inl ⟨_, rfl, by rw [← ed.out]; exact hJ⟩⟩

/-- what the value that slotsOf hands back does, whatever loop goes over it -/
theorem slots_stops (B r c rs cs : Nat) (iv : Int) (hr : r + rs ≤ 1000) (hc : c + cs ≤ 1000) (w : World) (hBn : B < w.heap.size) (hb : w.heap[B]? = some (gcObj r c rs cs iv)) :
    SeqStopsK Fence.wide 3 Try.prog 72 #[.pointer (some ⟨B, 0, none⟩)] (fun x : Sl => #[slV x.1]) (BoxK B) (fun ys => ys = rowsSl r c cs rs) (fun pre => pre <+: rowsSl r c cs rs) (rowsSl r c cs rs).length w := fun l J Jx W hW _ _ hY h0 =>
  slots1_in l B r c rs cs iv hr hc J Jx hY W ((hW.block B hBn).trans hb) h0
/-- the cell at its place, as it is handed in -/
def gcV (r c rs cs : Nat) (i : Int) : Value := .agg #[.int .i64 r, .int .i64 c, .int .i64 rs, .int .i64 cs, .int .i64 i]
set_option maxHeartbeats 400000 in
theorem slotsOf_any (r c rs cs : Nat) (i : Int) (w : World) :
    Calls Try.prog 58 #[gcV r c rs cs i] w fun e w' => e = .returned (.func (.func 72) #[] #[.pointer (some ⟨w.heap.size, 0, none⟩)]) ∧ w' = w.alloc (gcObj r c rs cs i) := by
  unfold gcV gcObj
  go_enter Try.func58, Try.ntmps58
  go_wp2
  go_ret
  exact ⟨rfl, rfl⟩
end Go.Proofs.Ytggmjiddadjilal
namespace Go.Proofs.Ytggmjiddadjilal
open Go.RowKit Go.Shelf
open Go.Maps (Keyed)
open Go.ChangeMaps (setBlock)
open Go.WideElems (Fit)

theorem tkLaidOut : laidOutB Try.prog = true := by kernel_rfl
theorem tkLaw : WideMaps.KeyLaw Try.prog 95 := deep_law_laid tkLaidOut (m := 2) (by omega) (of_decide_eq_true (by kernel_rfl)) (by kernel_rfl) (by rw [Try.underlying95])
theorem tkKeyed : Keyed Try.prog 95 := Keyed.of_law tkLaw
theorem tkZero (w : World) : (zeroValue 3).run Try.prog w = .ok (.int .i64 0) w := by kernel_rfl
/-- what a slot reads as where it is a key -/
def slK (x : Nat × Nat) : Lit := .string (keyBytes [.int .i64 x.1, .int .i64 x.2])
theorem wfNat {n : Nat} (h : n ≤ 1000) : (Lit.int .i64 (n : Int)).wf = true :=
  WalkArith.wf_i64 (by omega)
theorem slKey (x : Sl) : keyOf Try.prog 95 (slV x.1) = some (slK x.1) := by
  have wa := wfNat x.2.1
  have wb := wfNat x.2.2
  have hkt : Try.prog.keyType 95 = true := by kernel_rfl
  have hcs : Try.prog.cellsOf 95 = 2 := by kernel_rfl
  have hci : Try.prog.cellsOf 3 = 1 := by kernel_rfl
  obtain ⟨m, hm⟩ : ∃ m, Try.prog.types.size = m + 1 := ⟨Try.prog.types.size - 1, by have : 0 < Try.prog.types.size := of_decide_eq_true (by kernel_rfl); omega⟩
  unfold keyOf slV slK
  simp only [Try.underlying95]
  rw [if_pos (by simp [hkt, Value.formed, Try.underlying95, hcs]), hm]
  unfold Program.keyLits
  simp [Try.underlying95, Value.cells, hcs, hci, Program.keyLits, Try.underlying3, wa, wb]

section
variable {H : Type} {P : Program} {w : World} {t k e : TypeId} {R : Value → Option (DataW H × List MemPlace)} {b n : Nat} {D : DataW H}

/-- 'm[k]++' AT A KEY THAT IS NOT THERE: the entry is made, with the zero value; then the value is stored into it. -/
theorem entry_any (hown : w.ownsMap P k R b n D) (K : Keyed P k) (ht : P.underlying t = some (.map k e)) (hn : n < maxLen) {z : Value} (hz : ∀ u : World, (zeroValue e).run P u = .ok z u) {zd : DataW H} {zp : List MemPlace} (hzd : R z = some (zd, zp))
    {key : Value} {kl : Lit} (hkey : keyOf P k key = some kl) {val : Value} {d : DataW H} {ps : List MemPlace} (hv : R val = some (d, ps)) :
    ∃ (v0 : Value) (st : Nat) (w1 w2 : World), (Instr.mapEntry t (.map (some b)) key).run P w = .ok (.tuple #[v0, goInt st]) w1 ∧ w.mapTurned w1 b ∧
      (∀ v, (Instr.lookup t (.map (some b)) key false).run P w = .ok v w → (Instr.lookup t (.map (some b)) key false).run P w1 = .ok v w1) ∧
      (Instr.entryStore t (.map (some b)) (goInt st) val).run P w1 = .ok () w2 ∧ w2.ownsMap P k R b (n + 1) (D.put kl d) ∧ w.mapTurned w2 b := by
  have hself := hown.turned_refl
  obtain ⟨u1, hu1, ho1, hm1⟩ := hown.store K ht hn hkey hzd
  obtain ⟨u2, hu2, ho2, hm2⟩ := hown.store K ht hn hkey hv
  have hown' := hown
  obtain ⟨es, clock, hb, F, hs, rfl⟩ := hown
  obtain ⟨s1, s2, _⟩ := F.stamped
  have hst : ∀ (es1 : Array MapEntry) (c1 st i : Nat) (W : World), W.heap[b]? = some (.map es1 c1) → es1.findIdx? (fun e => ((e.born : Nat) : Int) == ((st : Nat) : Int)) = some i →
      (Instr.entryStore t (.map (some b)) (goInt st) val).run P W = .ok () (setBlock W b (.map (es1.modify i fun e => { e with val := val }) c1)) := fun es1 c1 st i W hW hi => by
    simp [Instr.entryStore, MapKept.run_getObj_map hW, asInt, asIntOf, goInt, hi, MapKept.run_setObj_map _ hW, Result.andThen, setBlock]
  rcases K.find w hkey es.toList F.keys with ⟨h1, hno⟩ | ⟨j, e0, h1, h2, h3⟩
  · have r1 : (Instr.mapUpdate t (.map (some b)) key z).run P w = .ok () (setBlock w b (.map (es.push ⟨key, z, clock⟩) (clock + 1))) := by
      simp [Instr.mapUpdate, run_underlying ht, MapKept.run_getObj_map hb, K.check w false hkey, h1, MapKept.run_setObj_map _ hb, Result.andThen, setBlock]
    have r2 : (Instr.mapUpdate t (.map (some b)) key val).run P w = .ok () (setBlock w b (.map (es.push ⟨key, val, clock⟩) (clock + 1))) := by
      simp [Instr.mapUpdate, run_underlying ht, MapKept.run_getObj_map hb, K.check w false hkey, h1, MapKept.run_setObj_map _ hb, Result.andThen, setBlock]
    rw [hu1] at r1
    rw [hu2] at r2
    simp only [Result.ok.injEq, true_and] at r1 r2
    subst r1 r2
    have hw2 := ChangeMaps.heap_setBlock_same hb (.map (es.push ⟨key, z, clock⟩) (clock + 1))
    refine ⟨z, clock, _, _, ?_, hm1, ?_, ?_, ho2, hm2⟩
    · simp [Instr.mapEntry, run_underlying ht, MapKept.run_getObj_map hb, K.check w false hkey, h1, hz, MapKept.run_setObj_map _ hb, Result.andThen, setBlock]
    · intro v hv
      have e0 : (Instr.lookup t (.map (some b)) key false).run P w = .ok z w := by
        rcases Maps.fit_look false K ht (hz w) hb F hkey with ⟨h, _⟩ | ⟨e0, _, hm, hk, _⟩
        · exact h
        · exact absurd hk (hno e0 hm)
      rw [e0] at hv
      simp only [Result.ok.injEq, and_true] at hv
      subst hv
      obtain ⟨es', ck', hb', F', _, _⟩ := ho1
      rw [hw2] at hb'
      simp only [Option.some.injEq, Obj.map.injEq] at hb'
      obtain ⟨rfl, rfl⟩ := hb'
      rcases Maps.fit_look false K ht (hz _) hw2 F' hkey with ⟨h, hn', _⟩ | ⟨e1, _, hm, hk, h, _⟩
      · exact h
      · rw [h]
        have : e1.val = z := by
          simp only [Array.toList_push, List.mem_append, List.mem_singleton] at hm
          rcases hm with hm | rfl
          · exact absurd hk (hno e1 hm)
          · rfl
        simp [this]
    · have hidx : (es.push ⟨key, z, clock⟩).findIdx? (fun e => ((e.born : Nat) : Int) == ((clock : Nat) : Int)) = some es.size := by
        rw [WideElems.findIdx_arr]
        have := WideElems.findIdx_born (l := (es.push ⟨key, z, clock⟩).toList) (j := es.size) (e0 := ⟨key, z, clock⟩) (by
          simp only [Array.toList_push, List.map_append, List.map_cons, List.map_nil]
          refine List.nodup_append.2 ⟨s2, by simp, fun a ha c hc e1 => ?_⟩
          simp only [List.mem_singleton] at hc
          obtain ⟨x, hx, rfl⟩ := List.mem_map.1 ha
          have := s1 x hx
          omega) (by simp)
        exact this
      have hmod : (es.push ⟨key, z, clock⟩).modify es.size (fun e => { e with val := val }) = es.push ⟨key, val, clock⟩ := by
        apply Array.ext'
        rw [Array.toList_modify, Array.toList_push, Array.toList_push, ← Array.length_toList, WideElems.modify_last]
      rw [hst _ _ _ _ _ hw2 hidx, hmod]
      simp [setBlock]
  · have hj : es[j]? = some e0 := by simpa using h2
    have hsame : es.modify j (fun e => { e with key := key }) = es := by
      apply Array.ext'
      rw [Array.toList_modify, ChangeMaps.modify_eq_set _ _ _ _ h2]
      have : ({ e0 with key := key } : MapEntry) = e0 := by rw [← h3]
      rw [this]
      exact WideElems.set_self _ _ _ h2
    have hw : setBlock w b (.map es clock) = w := by
      have e : w.heap.setIfInBounds b (.map es clock) = w.heap := by
        apply Array.ext_getElem?
        intro i
        by_cases hi : i = b
        · subst hi
          exact (ChangeMaps.heap_setBlock_same hb _).trans hb.symm
        · exact ChangeMaps.heap_setBlock_other hb _ hi
      unfold setBlock
      rw [e]
    have r2 : (Instr.mapUpdate t (.map (some b)) key val).run P w = .ok () (setBlock w b (.map (es.modify j (fun e' => { e' with key := key, val := val })) clock)) := by
      simp [Instr.mapUpdate, run_underlying ht, MapKept.run_getObj_map hb, K.check w false hkey, h1, hj, h3, K.stays w hkey, MapKept.run_setObj_map _ hb, Result.andThen, setBlock]
    rw [hu2] at r2
    simp only [Result.ok.injEq, true_and] at r2
    subst r2
    have r1 : (Instr.mapEntry t (.map (some b)) key).run P w = .ok (.tuple #[e0.val, goInt e0.born]) (setBlock w b (.map es clock)) := by
      simp [Instr.mapEntry, run_underlying ht, MapKept.run_getObj_map hb, K.check w false hkey, h1, hj, h3, K.stays w hkey, hsame, MapKept.run_setObj_map _ hb, Result.andThen, setBlock]
    rw [hw] at r1
    have hidx : es.findIdx? (fun e => ((e.born : Nat) : Int) == ((e0.born : Nat) : Int)) = some j := by
      rw [WideElems.findIdx_arr]
      exact WideElems.findIdx_born s2 h2
    have hmod : es.modify j (fun e => { e with val := val }) = es.modify j (fun e' => { e' with key := key, val := val }) := by
      apply Array.ext'
      rw [Array.toList_modify, Array.toList_modify, ChangeMaps.modify_eq_set _ _ _ _ h2, ChangeMaps.modify_eq_set _ _ _ _ h2, ← h3]
    exact ⟨e0.val, e0.born, w, _, r1, hself, fun v hv => hv, by rw [hst _ _ _ _ _ hb hidx, hmod], ho2, hm2⟩
end

/-- the map tells how often each slot is in a list -/
def TakAt (w : World) (B : Nat) (L : List (Nat × Nat)) : Prop :=
  ∃ D : DataW Unit, w.ownsMap Try.prog 95 (plainElem Try.prog 3) B L.length D ∧ (L.Nodup → Maps.size D = L.length) ∧ (∀ x : Sl, Maps.has D (slK x.1) = decide (x.1 ∈ L)) ∧
    ∀ x : Sl, D.atKey (slK x.1) (.lit (.int .i64 0)) = .lit (.int .i64 (L.count x.1 : Nat))
theorem TakAt.lt {w : World} {B : Nat} {L : List (Nat × Nat)} (h : TakAt w B L) : B < w.heap.size := h.choose_spec.1.lt
theorem TakAt.of_block {w w' : World} {B : Nat} {L : List (Nat × Nat)} (h : TakAt w B L) (hb : w'.heap[B]? = w.heap[B]?) : TakAt w' B L := by
  obtain ⟨D, ⟨es, clock, h1, h2⟩, h3⟩ := h
  exact ⟨D, ⟨es, clock, hb.trans h1, h2⟩, h3⟩
/-- the block is no cells -/
theorem TakAt.notCells {w : World} {B : Nat} {L : List (Nat × Nat)} (h : TakAt w B L) : ∃ o, w.heap[B]? = some o ∧ o.isCells = false := by
  obtain ⟨D, ⟨es, clock, h1, _⟩, _⟩ := h
  exact ⟨_, h1, rfl⟩
set_option maxRecDepth 100000 in
theorem slK_inj {x y : Sl} (h : slK x.1 = slK y.1) : x.1 = y.1 := by
  have := tkKeyed.inj (slKey x) ((slKey y).trans (by rw [h]))
  have h2 : x.1.1 = y.1.1 ∧ x.1.2 = y.1.2 := by
    simp [slV] at this
    omega
  exact Prod.ext h2.1 h2.2
set_option maxRecDepth 100000 in
/-- a look-up -/
theorem TakAt.look {w : World} {B : Nat} {L : List (Nat × Nat)} (h : TakAt w B L) (x : Sl) : (Instr.lookup 70 (.map (some B)) (slV x.1) false).run Try.prog w = .ok (.int .i64 (L.count x.1 : Nat)) w := by
  obtain ⟨D, hown, _, _, hat⟩ := h
  obtain ⟨c, hrun, hc, _⟩ := hown.lookup_int tkKeyed Try.underlying70 Try.underlying3 (tkZero _) (slKey x)
  rw [hat x] at hc
  rw [hrun]
  have e : ((L.count x.1 : Nat) : Int) = c := by injection hc with hc; injection hc
  rw [e]
set_option maxRecDepth 100000 in
theorem TakAt.len {w : World} {B : Nat} {L : List (Nat × Nat)} (h : TakAt w B L) (hL : L.Nodup) (ty : TypeId) : (Builtin.len_ #[70] ty #[.map (some B)]).run Try.prog w = .ok (.int .i64 L.length) w := by
  obtain ⟨D, hown, hs, _⟩ := h
  rw [hown.len Try.underlying70 ty, hs hL]
set_option maxRecDepth 100000 in
theorem TakAt.new (w : World) : TakAt (w.alloc (.map #[] 0)) w.heap.size [] :=
  ⟨.map [], World.ownsMap_made _ _ _ _, fun _ => rfl, fun x => by simp [Maps.has], fun x => by simp [DataW.atKey]⟩
set_option maxRecDepth 100000 in
/-- one slot more -/
theorem TakAt.step {w : World} {B : Nat} {L : List (Nat × Nat)} (h : TakAt w B L) (x : Sl) (hl : L.length < 1000000) :
    ∃ (v0 : Value) (st : Nat) (w1 w2 : World), (Instr.mapEntry 70 (.map (some B)) (slV x.1)).run Try.prog w = .ok (.tuple #[v0, goInt st]) w1 ∧
      (Instr.lookup 70 (.map (some B)) (slV x.1) false).run Try.prog w1 = .ok (.int .i64 (L.count x.1 : Nat)) w1 ∧ w.mapTurned w1 B ∧
      (Instr.entryStore 70 (.map (some B)) (goInt st) (.int .i64 ((L.count x.1 : Nat) + 1))).run Try.prog w1 = .ok () w2 ∧ TakAt w2 B (L ++ [x.1]) ∧ w.mapTurned w2 B := by
  have hlook := h.look x
  obtain ⟨D, hown, hs, hh, hat⟩ := h
  have hD := hown.isMap
  have hT := hown.tidy tkKeyed
  have hkl := tkKeyed.key (slKey x)
  have hcl := L.count_le_length (a := x.1)
  have hwf : (Lit.int .i64 ((L.count x.1 : Nat) + 1)).wf = true := WalkArith.wf_i64 (by omega)
  obtain ⟨v0, st, w1, w2, e1, m1, l1, e2, o2, m2⟩ := entry_any hown tkKeyed Try.underlying70 (by unfold maxLen; omega) tkZero (plainElem_int Try.underlying3 (a := 0) (by decide)) (slKey x) (plainElem_int Try.underlying3 hwf)
  refine ⟨v0, st, w1, w2, e1, l1 _ hlook, m1, e2, ⟨_, by simpa using o2, ?_, ?_, ?_⟩, m2⟩
  · intro hn
    have hx : x.1 ∉ L := by
      have := (List.nodup_append.1 hn).2.2
      intro hx
      exact this _ hx _ (by simp) rfl
    have hab : Maps.has D (slK x.1) = false := by rw [hh x]; simpa using hx
    rw [Maps.size_put hT, hab, hs (List.nodup_append.1 hn).1]; simp
  · intro y
    by_cases hy : y.1 = x.1
    · rw [hy, Maps.has_put_same hD hkl]; simp
    · rw [Maps.has_put_other (fun h => hy (slK_inj h)), hh y]; simp [hy]
  · intro y
    by_cases hy : y.1 = x.1
    · rw [hy, Maps.atKey_put_same hD hkl, List.count_append]; simp
    · rw [Maps.atKey_put_other (fun h => hy (slK_inj h)), hat y, List.count_append]; simp [Ne.symm hy]
end Go.Proofs.Ytggmjiddadjilal
