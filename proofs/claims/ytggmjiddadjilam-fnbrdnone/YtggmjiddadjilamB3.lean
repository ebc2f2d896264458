/-
  PROVED HERE: small facts for loops over an iterator: what a round keeps of a box; a box's cell behind what is laid since. Also: 1 more texts of the same proof.
-/
import Derived.Test.YtggmjiddadjilamB1
import Derived.RangeFuncNested
import Derived.RangeFuncBound
import Derived.Shelf.RegionOpen
import Derived.OwnWalkIn
import Derived.LoopNIn
import Derived.LoopIn
set_option maxRecDepth 1000000
set_option maxHeartbeats 40000000
namespace Go.Proofs.Ytggmjiddadjilam
section
open Go.RowKit Go.Shelf
def z2a (B:Nat) (W W':World):Prop:=W'.heap[B]?=W.heap[B]?
theorem z2a.trans {B:Nat} {a b c:World} (h:z2a B a b) (k:z2a B b c):z2a B a c:=Eq.trans k h
theorem z5q {B:Nat} {w:World} (h:B < w.heap.size) (W:World) (l:Nat) (o o':Obj) (hl:w.heap.size≤l) (_:W.heap[l]?=some o) (_:o.isCells=false) (_:o.isWalk=false):z2a B W (W.putObj l o'):=by
 show (W.putObj l o').heap[B]?=W.heap[B]?;simp only [World.putObj];rw [Array.getElem?_setIfInBounds_ne (by omega)]
end
section
open Go.RowKit Go.Shelf
attribute [local go_sem] Oper.semAt_some
abbrev Sl:={ x:Nat × Nat // x.1≤1000∧x.2≤1000 }
def z2z (r c:Nat):Sl:=if h:r≤1000∧c≤1000 then ⟨(r,c),h⟩ else ⟨(0,0),by simp⟩
theorem z6E {r c:Nat} (h:r≤1000∧c≤1000):z2z r c=⟨(r,c),h⟩:=dif_pos h
theorem z2Z {r c:Nat} (h:r≤1000∧c≤1000):(z2z r c).1=(r,c):=by rw [z6E h]
def slV (x:Nat × Nat):Value:=.agg #[.int .i64 x.1,.int .i64 x.2]
def z15 (r c a:Nat):List Sl:=(List.range a).map fun j=>z2z r (c+j)
def z01 (r c cs d:Nat):List Sl:=(List.range d).flatMap fun i=>z15 (r+i) c cs
theorem z37 (r c a:Nat):z15 r c (a+1)=z15 r c a ++ [z2z r (c+a)]:=by simp [z15,List.range_succ]
theorem z2b (r c cs d:Nat):z01 r c cs (d+1)=z01 r c cs d ++ z15 (r+d) c cs:=by simp [z01,List.range_succ]
theorem z5r {r c a b:Nat} (h:a≤b):z15 r c a <+: z15 r c b:=by
 obtain ⟨k,rfl⟩:=Nat.exists_eq_add_of_le h;simp only [z15,List.range_add,List.map_append];exact List.prefix_append _ _
theorem z51 {r c cs a b:Nat} (h:a≤b):z01 r c cs a <+: z01 r c cs b:=by
 obtain ⟨k,rfl⟩:=Nat.exists_eq_add_of_le h;simp only [z01,List.range_add,List.flatMap_append];exact List.prefix_append _ _
theorem z3F {r c cs d a rs:Nat} (hd:d < rs) (ha:a < cs):(z01 r c cs d ++ z15 (r+d) c a) ++ [z2z (r+d) (c+a)] <+: z01 r c cs rs:=by
 rw [List.append_assoc,← z37];refine List.IsPrefix.trans ?_ (z51 (Nat.succ_le_of_lt hd));rw [z2b];exact (List.prefix_append_right_inj _).2 (z5r ha)
theorem z5s {r c cs d a rs:Nat} (hd:d < rs) (ha:a < cs):(z01 r c cs d ++ z15 (r+d) c a).length < (z01 r c cs rs).length:=by
 have:=(z3F (r:=r) (c:=c) hd ha).length_le;simp only [List.length_append,List.length_cons,List.length_nil] at this ⊢;omega
def z0W (r c rs cs:Nat) (i:Int):Obj:=.cells #[.int .i64 r,.int .i64 c,.int .i64 rs,.int .i64 cs,.int .i64 i] 115
theorem z5t (l B:Nat) (r c rs cs:Nat) (iv:Int) (hr:r+rs≤1000) (hc:c+cs≤1000) (J Jx:List Sl→World→Prop)
  (hY:∀ pre x W,J pre W→pre.length < (z01 r c cs rs).length→YieldAt Fence.wide 2 Try.prog l #[slV x.1] W fun e W' =>
   (e=.returned (.bool true)∧J (pre ++ [x]) W'∧z2a B W W')∨(e=.returned (.bool false)∧Jx (pre ++ [x]) W'))
  (W:World) (hB:W.heap[B]?=some (z0W r c rs cs iv)) (h0:J [] W) :
  CallsIn Fence.wide 3 Try.prog 114 #[.func (.yield l) #[] #[],.pointer (some ⟨B,0,none⟩)] W fun e W'=>(∃ v,e=.returned v) ∧
   ((∃ ys,ys=z01 r c cs rs∧J ys W')∨(∃ pre,pre <+: z01 r c cs rs∧Jx pre W')):=by
 have c0:W.cell? ⟨B,2,none⟩=some (.int .i64 rs):=(by simp [World.cell?,hB,z0W]);refine callsIn_of_wp Try.func114 rfl trivial ?_ rfl;simp only [Try.ntmps114,List.size_toArray,List.length_cons,List.length_nil,Nat.reduceAdd,Nat.reduceSub,Array.replicate_succ,Array.replicate_zero,List.push_toArray,List.append_toArray,List.nil_append,List.cons_append]
 gi_wp2
 gi_loopw [7] (fun i wr=>∃ d:Nat,i=.int .i64 d∧d≤rs∧wr.heap[B]?=some (z0W r c rs cs iv)∧J (z01 r c cs d) wr) (fun i _=>rs+1 - (intOf i).toNat)
 case atStart=>exact ⟨0,rfl,by omega,hB,h0⟩
 case round =>
  obtain ⟨d,rfl,hd,hBr,hJ⟩:=hrel;have c1:wr.cell? ⟨B,3,none⟩=some (.int .i64 cs):=(by simp [World.cell?,hBr,z0W]);by_cases hlt:d < rs
  ·gi_wp2
   gi_loopw [12] (fun i wq=>∃ a:Nat,i=.int .i64 a∧a≤cs∧wq.heap[B]?=some (z0W r c rs cs iv)∧J (z01 r c cs d ++ z15 (r+d) c a) wq) (fun i _=>cs+1 - (intOf i).toNat)
   case atStart=>exact ⟨0,rfl,by omega,hBr,by simpa [z15] using hJ⟩
   case round =>
    obtain ⟨a,rfl,ha,hBq,hJq⟩:=hrel;by_cases hla:a < cs
    ·have d0:wr.cell? ⟨B,0,none⟩=some (.int .i64 r):=(by simp [World.cell?,hBq,z0W]);have d1:wr.cell? ⟨B,1,none⟩=some (.int .i64 c):=(by simp [World.cell?,hBq,z0W]);have hx:(z2z (r+d) (c+a)).1=(r+d,c+a):=z2Z (by omega);obtain ⟨fn,tmps,assign,body,hy,hR⟩:=hY _ (z2z (r+d) (c+a)) wr hJq (z5s hlt hla);rw [hx] at hy;dsimp only [slV] at hy;clear hx;have HP:=Hd (z3F (r:=r) (c:=c) hlt hla);have HS:=Hd (z37 (r+d) c a);have e1:((r+d:Nat):Int)=(r:Int)+d:=(by omega);have e2:((c+a:Nat):Int)=(c:Int)+a:=(by omega);simp only [e1,e2] at hy;clear e1 e2
     gi_wp2
     refine hR.mono ?_;rintro e W3 (⟨rfl,hJ3,hk3⟩ | ⟨rfl,hJx3⟩)
     ·have hB3:=Eq.trans hk3 hBq
      gi_wp2
      go_roundw
      case rel=>exact ⟨a+1,by go_num,by omega,hB3,by rw [HS.out,← List.append_assoc];exact hJ3⟩
      case measure=>simp [intOf];omega
     ·gi_wp2
      refine bodyPost_ret (results_none rfl _ _ _) rfl ?_;exact ⟨⟨_,rfl⟩,.inr ⟨_,HP.out,hJx3⟩⟩
    ·have ea:Hid (a=cs):=Hd (by omega);have HS:=Hd (z2b r c cs d)
     gi_wp2
     go_roundw
     case rel=>exact ⟨d+1,by go_num,by omega,hBq,by have h:=hJq;rw [ea.out] at h;rw [HS.out];exact h⟩
     case measure=>simp [intOf];omega
  ·have ed:Hid (d=rs):=Hd (by omega)
   gi_wp2
   go_end0
   exact ⟨⟨_,rfl⟩,.inl ⟨_,rfl,by rw [← ed.out];exact hJ⟩⟩
theorem z2P (B r c rs cs:Nat) (iv:Int) (hr:r+rs≤1000) (hc:c+cs≤1000) (w:World) (hBn:B < w.heap.size) (hb:w.heap[B]?=some (z0W r c rs cs iv)) :
  SeqStopsK Fence.wide 3 Try.prog 114 #[.pointer (some ⟨B,0,none⟩)] (fun x:Sl=>#[slV x.1]) (z2a B) (fun ys=>ys=z01 r c cs rs) (fun pre=>pre <+: z01 r c cs rs) (z01 r c cs rs).length w:=fun l J Jx W hW _ _ hY h0 =>
 z5t l B r c rs cs iv hr hc J Jx hY W ((hW.block B hBn).trans hb) h0
def gcV (r c rs cs:Nat) (i:Int):Value:=.agg #[.int .i64 r,.int .i64 c,.int .i64 rs,.int .i64 cs,.int .i64 i]
theorem z2Q (r c rs cs:Nat) (i:Int) (w:World) :
  Calls Try.prog 107 #[gcV r c rs cs i] w fun e w'=>e=.returned (.func (.func 114) #[] #[.pointer (some ⟨w.heap.size,0,none⟩)])∧w'=w.alloc (z0W r c rs cs i):=by
 unfold gcV z0W;go_enter Try.func107,Try.ntmps107;go_wp2;go_ret;exact ⟨rfl,rfl⟩
end
end Go.Proofs.Ytggmjiddadjilam
