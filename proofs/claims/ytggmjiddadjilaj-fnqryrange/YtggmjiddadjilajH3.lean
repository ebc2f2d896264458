/-
  PROVED HERE: small facts for loops over an iterator: what a round keeps of a box; a box's cell behind what is laid since. Also: the program's own iterator over the slots of a cell, for every loop that goes over it; nothing that was in memory is turned.
-/
import Derived.Test.YtggmjiddadjilajH1
import Derived.RangeFuncNested
import Derived.RangeFuncBound
import Derived.RangeFuncCalls
import Derived.RangeFuncLeaves
import Derived.Shelf.Abstract
import Derived.Shelf.RegionOpen
import Derived.WalkKit
import Derived.OwnWalkIn
import Derived.TacticsInMore
import Derived.LoopNIn
import Derived.LoopIn
import Derived.RangeFuncFrom
namespace Go.Proofs.Ytggmjiddadjilaj
open Go.RowKit Go.Shelf

/-- what a round keeps: the text's own box -/
def BoxK (B:Nat) (W W':World):Prop:=W'.heap[B]?=W.heap[B]?
theorem BoxK.trans {B:Nat} {a b c:World} (h:BoxK B a b) (k:BoxK B b c):BoxK B a c:=Eq.trans k h

theorem BoxK_b {B:Nat} {w:World} (h:B < w.heap.size) (W:World) (l:Nat) (o o':Obj) (hl:w.heap.size≤l) (_:W.heap[l]?=some o) (_:o.isCells=false) (_:o.isWalk=false):BoxK B W (W.putObj l o'):=by
 show (W.putObj l o').heap[B]?=W.heap[B]?
 simp only [World.putObj]
 rw [Array.getElem?_setIfInBounds_ne (by omega)]
end Go.Proofs.Ytggmjiddadjilaj
namespace Go.Proofs.Ytggmjiddadjilaj
open Go.RowKit Go.Shelf
attribute [local go_sem] Oper.semAt_some

/-- a slot: row and column, neither great -/
abbrev Sl:={ x:Nat × Nat // x.1≤1000∧x.2≤1000 }
def toSl (r c:Nat):Sl:=if h:r≤1000∧c≤1000 then ⟨(r,c),h⟩ else ⟨(0,0),by simp⟩
theorem toSl_of {r c:Nat} (h:r≤1000∧c≤1000):toSl r c=⟨(r,c),h⟩:=dif_pos h
theorem toSl_val {r c:Nat} (h:r≤1000∧c≤1000):(toSl r c).1=(r,c):=by rw [toSl_of h]
/-- a slot in memory -/
def slV (x:Nat × Nat):Value:=.agg #[.int .i64 x.1,.int .i64 x.2]
/-- the first so many slots of a row, from a column on -/
def rowSl (r c a:Nat):List Sl:=(List.range a).map fun j=>toSl r (c+j)
/-- the slots of the first so many rows -/
def rowsSl (r c cs d:Nat):List Sl:=(List.range d).flatMap fun i=>rowSl (r+i) c cs
theorem rowSl_succ (r c a:Nat):rowSl r c (a+1)=rowSl r c a ++ [toSl r (c+a)]:=by simp [rowSl,List.range_succ]
theorem rowsSl_succ (r c cs d:Nat):rowsSl r c cs (d+1)=rowsSl r c cs d ++ rowSl (r+d) c cs:=by simp [rowsSl,List.range_succ]
theorem rowSl_pre {r c a b:Nat} (h:a≤b):rowSl r c a <+: rowSl r c b:=by
 obtain ⟨k,rfl⟩:=Nat.exists_eq_add_of_le h
 simp only [rowSl,List.range_add,List.map_append]
 exact List.prefix_append _ _
theorem rowsSl_pre {r c cs a b:Nat} (h:a≤b):rowsSl r c cs a <+: rowsSl r c cs b:=by
 obtain ⟨k,rfl⟩:=Nat.exists_eq_add_of_le h
 simp only [rowsSl,List.range_add,List.flatMap_append]
 exact List.prefix_append _ _
/-- one slot more is still ahead of the end -/
theorem slots_pre {r c cs d a rs:Nat} (hd:d < rs) (ha:a < cs):(rowsSl r c cs d ++ rowSl (r+d) c a) ++ [toSl (r+d) (c+a)] <+: rowsSl r c cs rs:=by
 rw [List.append_assoc,← rowSl_succ]
 refine List.IsPrefix.trans ?_ (rowsSl_pre (Nat.succ_le_of_lt hd))
 rw [rowsSl_succ]
 exact (List.prefix_append_right_inj _).2 (rowSl_pre ha)
theorem slots_len {r c cs d a rs:Nat} (hd:d < rs) (ha:a < cs):(rowsSl r c cs d ++ rowSl (r+d) c a).length < (rowsSl r c cs rs).length:=by
 have:=(slots_pre (r:=r) (c:=c) hd ha).length_le
 simp only [List.length_append,List.length_cons,List.length_nil] at this ⊢
 omega

/-- the five numbers of a cell at its place, in memory -/
def gcObj (r c rs cs:Nat) (i:Int):Obj:=.cells #[.int .i64 r,.int .i64 c,.int .i64 rs,.int .i64 cs,.int .i64 i] 29

set_option maxRecDepth 100000 in
set_option maxHeartbeats 1000000 in
theorem slots1_in (l B:Nat) (r c rs cs:Nat) (iv:Int) (hr:r+rs≤1000) (hc:c+cs≤1000) (J Jx:List Sl→World→Prop)
  (hY:∀ pre x W,J pre W→pre.length < (rowsSl r c cs rs).length→YieldAt Fence.wide 2 Try.prog l #[slV x.1] W fun e W' =>
   (e=.returned (.bool true)∧J (pre ++ [x]) W'∧BoxK B W W')∨(e=.returned (.bool false)∧Jx (pre ++ [x]) W'))
  (W:World) (hB:W.heap[B]?=some (gcObj r c rs cs iv)) (h0:J [] W) :
  CallsIn Fence.wide 3 Try.prog 94 #[.func (.yield l) #[] #[],.pointer (some ⟨B,0,none⟩)] W fun e W'=>(∃ v,e=.returned v) ∧
   ((∃ ys,ys=rowsSl r c cs rs∧J ys W')∨(∃ pre,pre <+: rowsSl r c cs rs∧Jx pre W')):=by
 have c0:W.cell? ⟨B,2,none⟩=some (.int .i64 rs):=by simp [World.cell?,hB,gcObj]
 refine callsIn_of_wp Try.func94 rfl trivial ?_ rfl
 simp only [Try.ntmps94,List.size_toArray,List.length_cons,List.length_nil,Nat.reduceAdd,Nat.reduceSub,Array.replicate_succ,Array.replicate_zero,List.push_toArray,List.append_toArray,List.nil_append,List.cons_append]
 gi_wp2
 gi_loopw [7] (fun i wr=>∃ d:Nat,i=.int .i64 d∧d≤rs∧wr.heap[B]?=some (gcObj r c rs cs iv)∧J (rowsSl r c cs d) wr) (fun i _=>rs+1 - (intOf i).toNat)
 case atStart=>exact ⟨0,rfl,by omega,hB,h0⟩
 case round =>
  obtain ⟨d,rfl,hd,hBr,hJ⟩:=hrel
  have c1:wr.cell? ⟨B,3,none⟩=some (.int .i64 cs):=by simp [World.cell?,hBr,gcObj]
  by_cases hlt:d < rs
  ·gi_wp2
   gi_loopw [12] (fun i wq=>∃ a:Nat,i=.int .i64 a∧a≤cs∧wq.heap[B]?=some (gcObj r c rs cs iv)∧J (rowsSl r c cs d ++ rowSl (r+d) c a) wq) (fun i _=>cs+1 - (intOf i).toNat)
   case atStart=>exact ⟨0,rfl,by omega,hBr,by simpa [rowSl] using hJ⟩
   case round =>
    obtain ⟨a,rfl,ha,hBq,hJq⟩:=hrel
    by_cases hla:a < cs
    ·have d0:wr.cell? ⟨B,0,none⟩=some (.int .i64 r):=by simp [World.cell?,hBq,gcObj]
     have d1:wr.cell? ⟨B,1,none⟩=some (.int .i64 c):=by simp [World.cell?,hBq,gcObj]
     have hx:(toSl (r+d) (c+a)).1=(r+d,c+a):=toSl_val (by omega)
     obtain ⟨fn,tmps,assign,body,hy,hR⟩:=hY _ (toSl (r+d) (c+a)) wr hJq (slots_len hlt hla)
     rw [hx] at hy
     dsimp only [slV] at hy
     clear hx
     have HP:=Hid.intro (slots_pre (r:=r) (c:=c) hlt hla)
     have HS:=Hid.intro (rowSl_succ (r+d) c a)
     have e1:((r+d:Nat):Int)=(r:Int)+d:=by omega
     have e2:((c+a:Nat):Int)=(c:Int)+a:=by omega
     simp only [e1,e2] at hy
     clear e1 e2
     gi_wp2
     refine hR.mono ?_
     rintro e W3 (⟨rfl,hJ3,hk3⟩ | ⟨rfl,hJx3⟩)
     ·have hB3:=Eq.trans hk3 hBq
      gi_wp2
      go_roundw
      case rel=>exact ⟨a+1,by go_num,by omega,hB3,by rw [HS.out,← List.append_assoc];exact hJ3⟩
      case measure=>simp [intOf];omega
     ·gi_wp2
      refine bodyPost_ret (results_none rfl _ _ _) rfl ?_
      exact ⟨⟨_,rfl⟩,.inr ⟨_,HP.out,hJx3⟩⟩
    ·have ea:Hid (a=cs):=Hid.intro (by omega)
     have HS:=Hid.intro (rowsSl_succ r c cs d)
     gi_wp2
     go_roundw
     case rel=>exact ⟨d+1,by go_num,by omega,hBq,by have h:=hJq;rw [ea.out] at h;rw [HS.out];exact h⟩
     case measure=>simp [intOf];omega
  ·have ed:Hid (d=rs):=Hid.intro (by omega)
   gi_wp2
   go_end0
   exact ⟨⟨_,rfl⟩,.inl ⟨_,rfl,by rw [← ed.out];exact hJ⟩⟩

/-- what the value that slotsOf hands back does, whatever loop goes over it -/
theorem slots_stops (B r c rs cs:Nat) (iv:Int) (hr:r+rs≤1000) (hc:c+cs≤1000) (w:World) (hBn:B < w.heap.size) (hb:w.heap[B]?=some (gcObj r c rs cs iv)) :
  SeqStopsK Fence.wide 3 Try.prog 94 #[.pointer (some ⟨B,0,none⟩)] (fun x:Sl=>#[slV x.1]) (BoxK B) (fun ys=>ys=rowsSl r c cs rs) (fun pre=>pre <+: rowsSl r c cs rs) (rowsSl r c cs rs).length w:=fun l J Jx W hW _ _ hY h0 =>
 slots1_in l B r c rs cs iv hr hc J Jx hY W ((hW.block B hBn).trans hb) h0
/-- the cell at its place, as it is handed in -/
def gcV (r c rs cs:Nat) (i:Int):Value:=.agg #[.int .i64 r,.int .i64 c,.int .i64 rs,.int .i64 cs,.int .i64 i]
set_option maxHeartbeats 400000 in
theorem slotsOf_any (r c rs cs:Nat) (i:Int) (w:World) :
  Calls Try.prog 87 #[gcV r c rs cs i] w fun e w'=>e=.returned (.func (.func 94) #[] #[.pointer (some ⟨w.heap.size,0,none⟩)])∧w'=w.alloc (gcObj r c rs cs i):=by
 unfold gcV gcObj
 go_enter Try.func87,Try.ntmps87
 go_wp2
 go_ret
 exact ⟨rfl,rfl⟩
end Go.Proofs.Ytggmjiddadjilaj
