/-
  PROVED HERE: small facts for loops over an iterator: what a round keeps of a box; a box's cell behind what is laid since. Also: 1 more texts of the same proof.
-/
import Derived.Test.YtggmjiddadjilalGreatB1
import Derived.RangeFuncNested
import Derived.RangeFuncBound
import Derived.Shelf.RegionOpen
import Derived.OwnWalkIn
import Derived.LoopNIn
import Derived.LoopIn
set_option maxRecDepth 1000000
set_option maxHeartbeats 40000000
namespace Go.Proofs.YtggmjiddadjilalGreat
open Value (int)
open IntKind (i64)
section
open Go.RowKit Go.Shelf
def z2X (B:Nat) (W W':World):Prop:=W'.heap[B]?=W.heap[B]?
theorem z2X.trans {B:Nat} {a b c:World} (h:z2X B a b) (k:z2X B b c):z2X B a c:=Eq.trans k h
theorem z7g {B:Nat} {w:World} (h:B < w.heap.size) (W:World) (l:Nat) (o o':Obj) (hl:w.heap.size<=l) (_:W.heap[l]?=some o) (_:o.isCells=false) (_:o.isWalk=false):z2X B W (W.putObj l o'):=by
 show (W.putObj l o').heap[B]?=W.heap[B]?;simp only [World.putObj];rw [Array.getElem?_setIfInBounds_ne (by omega)]
theorem z98 {W:World} {B:Nat} {v:Value} {t:TypeId} (h:W.heap[B]?=some (.cells #[v] t (0,0))):W.cell? ⟨B,0,none⟩=some v/\W.frozen? ⟨B,0,none⟩=false:=by
 constructor <;> simp [World.cell?,World.frozen?,h]
theorem zbr (W:World) (v:Value) (t:TypeId):(W.alloc (.cells #[v] t)).cell? ⟨W.heap.size,0,none⟩=some v/\(W.alloc (.cells #[v] t)).frozen? ⟨W.heap.size,0,none⟩=false :=
 z98 (World.alloc_heap_new W _)
theorem z2E {W:World} {a:Addr} {v:Value} (o:Obj) (h:W.cell? a=some v):(W.alloc o).cell? a=some v:=cell_kept h (World.grownBy_alloc W o none) (fun r e=>by cases e)
theorem z7Z {W:World} {a:Addr} {v:Value} (o:Obj) (h:W.cell? a=some v) (hf:W.frozen? a=false):(W.alloc o).frozen? a=false:=(frozen_kept h (World.grownBy_alloc W o none) (fun r e=>by cases e)).trans hf
end
section
open Go.RowKit Go.Shelf
attribute [local go_sem] Oper.semAt_some
abbrev Sl:={ x:Nat × Nat // x.1<=1000/\x.2<=1000 }
def z61 (r c:Nat):Sl:=if h:r<=1000/\c<=1000 then ⟨(r,c),h⟩ else ⟨(0,0),by simp⟩
theorem zeD {r c:Nat} (h:r<=1000/\c<=1000):z61 r c=⟨(r,c),h⟩:=dif_pos h
theorem z6V {r c:Nat} (h:r<=1000/\c<=1000):(z61 r c).1=(r,c):=by rw [zeD h]
def slV (x:Nat × Nat):Value:=.agg #[int i64 x.1,int i64 x.2]
def z2m (r c a:Nat):List Sl:=(List.range a).map fun j=>z61 r (c+j)
def z0C (r c cs d:Nat):List Sl:=(List.range d).flatMap fun i=>z2m (r+i) c cs
theorem z7h (r c a:Nat):z2m r c (a+1)=z2m r c a ++ [z61 r (c+a)]:=by simp [z2m,List.range_succ]
theorem z56 (r c cs d:Nat):z0C r c cs (d+1)=z0C r c cs d ++ z2m (r+d) c cs:=by simp [z0C,List.range_succ]
theorem zch {r c a b:Nat} (h:a<=b):z2m r c a <+: z2m r c b:=by
 obtain ⟨k,rfl⟩:=Nat.exists_eq_add_of_le h;simp only [z2m,List.range_add,List.map_append];exact List.prefix_append _ _
theorem zbs {r c cs a b:Nat} (h:a<=b):z0C r c cs a <+: z0C r c cs b:=by
 obtain ⟨k,rfl⟩:=Nat.exists_eq_add_of_le h;simp only [z0C,List.range_add,List.flatMap_append];exact List.prefix_append _ _
theorem z8t {r c cs d a rs:Nat} (hd:d < rs) (ha:a < cs):(z0C r c cs d ++ z2m (r+d) c a) ++ [z61 (r+d) (c+a)] <+: z0C r c cs rs:=by
 rw [List.append_assoc,<-z7h];refine List.IsPrefix.trans ?_ (zbs (Nat.succ_le_of_lt hd));rw [z56];exact (List.prefix_append_right_inj _).2 (zch ha)
theorem zci {r c cs d a rs:Nat} (hd:d < rs) (ha:a < cs):(z0C r c cs d ++ z2m (r+d) c a).length < (z0C r c cs rs).length:=by
 have:=(z8t (r:=r) (c:=c) hd ha).length_le;simp only [List.length_append,List.length_cons,List.length_nil] at this |-;omega
def z21 (r c rs cs:Nat) (i:Int):Obj:=.cells #[int i64 r,int i64 c,int i64 rs,int i64 cs,int i64 i] 73
theorem zcj (l B:Nat) (r c rs cs:Nat) (iv:Int) (hr:r+rs<=1000) (hc:c+cs<=1000) (J Jx:List Sl->World->Prop)
  (hY:∀ pre x W,J pre W->pre.length < (z0C r c cs rs).length->YieldAt Fence.wide 2 Tryz.prog l #[slV x.1] W fun e W' =>
   (e=.returned (.bool true)/\J (pre ++ [x]) W'/\z2X B W W')\/(e=.returned (.bool false)/\Jx (pre ++ [x]) W'))
  (W:World) (hB:W.heap[B]?=some (z21 r c rs cs iv)) (h0:J [] W) :
  CallsIn Fence.wide 3 Tryz.prog 82 #[.func (.yield l) #[] #[],.pointer (some ⟨B,0,none⟩)] W fun e W'=>(∃ v,e=.returned v) /\
   ((∃ ys,ys=z0C r c cs rs/\J ys W')\/(∃ pre,pre <+: z0C r c cs rs/\Jx pre W')):=by
 have c0:W.cell? ⟨B,2,none⟩=some (int i64 rs):=(by simp [World.cell?,hB,z21]);refine callsIn_of_wp Tryz.func82 rfl trivial ?_ rfl;simp only [Tryz.ntmps82,List.size_toArray,List.length_cons,List.length_nil,Nat.reduceAdd,Nat.reduceSub,Array.replicate_succ,Array.replicate_zero,List.push_toArray,List.append_toArray,List.nil_append,List.cons_append]
 gi_wp2
 gi_loopw [7] (fun i wr=>∃ d:Nat,i=int i64 d/\d<=rs/\wr.heap[B]?=some (z21 r c rs cs iv)/\J (z0C r c cs d) wr) (fun i _=>rs+1 - (intOf i).toNat)
 case atStart=>exact ⟨0,rfl,by omega,hB,h0⟩
 case round =>
  obtain ⟨d,rfl,hd,hBr,hJ⟩:=hrel;have c1:wr.cell? ⟨B,3,none⟩=some (int i64 cs):=(by simp [World.cell?,hBr,z21]);by_cases hlt:d < rs
  ·gi_wp2
   gi_loopw [12] (fun i wq=>∃ a:Nat,i=int i64 a/\a<=cs/\wq.heap[B]?=some (z21 r c rs cs iv)/\J (z0C r c cs d ++ z2m (r+d) c a) wq) (fun i _=>cs+1 - (intOf i).toNat)
   case atStart=>exact ⟨0,rfl,by omega,hBr,by simpa [z2m] using hJ⟩
   case round =>
    obtain ⟨a,rfl,ha,hBq,hJq⟩:=hrel;by_cases hla:a < cs
    ·have d0:wr.cell? ⟨B,0,none⟩=some (int i64 r):=(by simp [World.cell?,hBq,z21]);have d1:wr.cell? ⟨B,1,none⟩=some (int i64 c):=(by simp [World.cell?,hBq,z21]);have hx:(z61 (r+d) (c+a)).1=(r+d,c+a):=z6V (by omega);obtain ⟨fn,tmps,assign,body,hy,hR⟩:=hY _ (z61 (r+d) (c+a)) wr hJq (zci hlt hla);rw [hx] at hy;dsimp only [slV] at hy;clear hx;have HP:=Hd (z8t (r:=r) (c:=c) hlt hla);have HS:=Hd (z7h (r+d) c a);have e1:((r+d:Nat):Int)=(r:Int)+d:=(by omega);have e2:((c+a:Nat):Int)=(c:Int)+a:=(by omega);simp only [e1,e2] at hy;clear e1 e2
     gi_wp2
     refine hR.mono ?_;rintro e W3 (⟨rfl,hJ3,hk3⟩ | ⟨rfl,hJx3⟩)
     ·have hB3:=Eq.trans hk3 hBq
      gi_wp2
      go_roundw
      case rel=>exact ⟨a+1,by go_num,by omega,hB3,by rw [HS.out,<-List.append_assoc];exact hJ3⟩
      case measure=>simp [intOf];omega
     ·gi_wp2
      refine bodyPost_ret (results_none rfl _ _ _) rfl ?_;exact ⟨⟨_,rfl⟩,.inr ⟨_,HP.out,hJx3⟩⟩
    ·have ea:Hid (a=cs):=Hd (by omega);have HS:=Hd (z56 r c cs d)
     gi_wp2
     go_roundw
     case rel=>exact ⟨d+1,by go_num,by omega,hBq,by have h:=hJq;rw [ea.out] at h;rw [HS.out];exact h⟩
     case measure=>simp [intOf];omega
  ·have ed:Hid (d=rs):=Hd (by omega)
   gi_wp2
   go_end0
   exact ⟨⟨_,rfl⟩,.inl ⟨_,rfl,by rw [<-ed.out];exact hJ⟩⟩
theorem z6y (B r c rs cs:Nat) (iv:Int) (hr:r+rs<=1000) (hc:c+cs<=1000) (w:World) (hBn:B < w.heap.size) (hb:w.heap[B]?=some (z21 r c rs cs iv)) :
  SeqStopsK Fence.wide 3 Tryz.prog 82 #[.pointer (some ⟨B,0,none⟩)] (fun x:Sl=>#[slV x.1]) (z2X B) (fun ys=>ys=z0C r c cs rs) (fun pre=>pre <+: z0C r c cs rs) (z0C r c cs rs).length w:=fun l J Jx W hW _ _ hY h0 =>
 zcj l B r c rs cs iv hr hc J Jx hY W ((hW.block B hBn).trans hb) h0
def gcV (r c rs cs:Nat) (i:Int):Value:=.agg #[int i64 r,int i64 c,int i64 rs,int i64 cs,int i64 i]
theorem z6z (r c rs cs:Nat) (i:Int) (w:World) :
  Calls Tryz.prog 66 #[gcV r c rs cs i] w fun e w'=>e=.returned (.func (.func 82) #[] #[.pointer (some ⟨w.heap.size,0,none⟩)])/\w'=w.alloc (z21 r c rs cs i):=by
 unfold gcV z21;go_enter Tryz.func66,Tryz.ntmps66;go_wp2;go_ret;exact ⟨rfl,rfl⟩
end
end Go.Proofs.YtggmjiddadjilalGreat
