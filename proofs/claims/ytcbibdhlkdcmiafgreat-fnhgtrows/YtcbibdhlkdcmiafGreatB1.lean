/-
  PROVED HERE: small laws on what a call leaves as it was, for the other texts of this claim. Also: small facts for loops over an iterator: what a round keeps of a box; a box's cell behind what is laid since. Also: the program's own iterator over the slots of a cell, for every loop that goes over it; nothing that was in memory is turned. Also: the program's map of the slots that cells have: what it holds behind one slot more; nothing else is turned. Also: what the program's allFree answers: whether none of a cell's slots is in the map; nothing that was in memory is turned. Also: an operation that is no defer statement is carried out in a round of a loop as outside of one; so a region of such that only reads may be walked once, in its text's order, in a round too; the three ways to take up the operations of a region that draws its order.
-/
import Derived.Test.YtcbibdhlkdcmiafGreatRows
import Derived.WalkKit
import Derived.ProofKit
import Derived.Below
import Derived.Deep.Draws
import Derived.RangeFuncNested
import Derived.RangeFuncBound
import Derived.RangeFuncCalls
import Derived.RangeFuncLeaves
import Derived.Shelf.Abstract
import Derived.Shelf.RegionOpen
import Derived.OwnWalkIn
import Derived.TacticsInMore
import Derived.LoopNIn
import Derived.LoopIn
import Derived.RangeFuncFrom
import Derived.Maps.OwnIn
import Derived.WideKeyEntry
import Derived.DeepKeys4
import Derived.Maps.Views
import Derived.OrdersIn
import Derived.Sort.QuietIn
namespace Go.Proofs.YtcbibdhlkdcmiafGreat
open Go.RowKit

theorem own:ownKnob Tryz.prog.godebug=none:=by kernel_rfl
theorem laidOut:laidOutB Tryz.prog=true:=by kernel_rfl
theorem Hid.intro {p:Prop} (h:p):Hid p:=h
theorem k_alloc {a w:World} (h:Below a.heap.size a w) (o:Obj):Below a.heap.size a (w.alloc o):=h.alloc h.size o
theorem k_drew {a w:World} (h:Below a.heap.size a w):Below a.heap.size a w.drew:=h.drew
theorem k_drewN {a w:World} (h:Below a.heap.size a w) (n:Nat):Below a.heap.size a (w.drewN n):=⟨h.os,h.tape,h.output,h.size,h.block⟩
theorem k_set {a w:World} (h:Below a.heap.size a w) {p:Addr} (hp:a.heap.size≤p.block) (u:Value):Below a.heap.size a (w.setCell p u):=h.setCell hp u
theorem k_trans {a b c:World} (h:Below a.heap.size a b) (k:Below b.heap.size b c):Below a.heap.size a c:=h.trans (k.mono h.size)
end Go.Proofs.YtcbibdhlkdcmiafGreat
namespace Go.Proofs.YtcbibdhlkdcmiafGreat
open Go.RowKit Go.Shelf

/-- what a round keeps: the text's own box -/
def BoxK (B:Nat) (W W':World):Prop:=W'.heap[B]?=W.heap[B]?
theorem BoxK.trans {B:Nat} {a b c:World} (h:BoxK B a b) (k:BoxK B b c):BoxK B a c:=Eq.trans k h

theorem BoxK_b {B:Nat} {w:World} (h:B < w.heap.size) (W:World) (l:Nat) (o o':Obj) (hl:w.heap.size≤l) (_:W.heap[l]?=some o) (_:o.isCells=false) (_:o.isWalk=false):BoxK B W (W.putObj l o'):=by
 show (W.putObj l o').heap[B]?=W.heap[B]?
 simp only [World.putObj]
 rw [Array.getElem?_setIfInBounds_ne (by omega)]
theorem cell_of_box_l {W:World} {B:Nat} {v:Value} {t:TypeId} (h:W.heap[B]?=some (.cells #[v] t (0,0))):W.cell? ⟨B,0,none⟩=some v∧W.frozen? ⟨B,0,none⟩=false:=by
 constructor <;> simp [World.cell?,World.frozen?,h]
theorem cell_new_l (W:World) (v:Value) (t:TypeId):(W.alloc (.cells #[v] t)).cell? ⟨W.heap.size,0,none⟩=some v∧(W.alloc (.cells #[v] t)).frozen? ⟨W.heap.size,0,none⟩=false :=
 cell_of_box_l (World.alloc_heap_new W _)
theorem cell_alloc_l {W:World} {a:Addr} {v:Value} (o:Obj) (h:W.cell? a=some v):(W.alloc o).cell? a=some v:=cell_kept h (World.grownBy_alloc W o none) (fun r e=>by cases e)
theorem frozen_alloc_l {W:World} {a:Addr} {v:Value} (o:Obj) (h:W.cell? a=some v) (hf:W.frozen? a=false):(W.alloc o).frozen? a=false:=(frozen_kept h (World.grownBy_alloc W o none) (fun r e=>by cases e)).trans hf
end Go.Proofs.YtcbibdhlkdcmiafGreat
namespace Go.Proofs.YtcbibdhlkdcmiafGreat
open Go.RowKit Go.Shelf
attribute [local go_sem] Oper.semAt_some

/-- a slot: row and column, neither great -/
abbrev Sl:={ x:Nat × Nat // x.1≤1000∧x.2≤1000 }
def toSl (r c:Nat):Sl:=if h:r≤1000∧c≤1000 then ⟨(r,c),h⟩ else ⟨(0,0),by simp⟩
theorem toSl_of {r c:Nat} (h:r≤1000∧c≤1000):toSl r c=⟨(r,c),h⟩:=dif_pos h
theorem toSl_val {r c:Nat} (h:r≤1000∧c≤1000):(toSl r c).1=(r,c):=by rw [toSl_of h]
/-- a slot in memory -/
def slV (x:Nat × Nat):Value:=.agg #[.int .i64 x.1,.int .i64 x.2]
/-- the first so many slots of a row, from a column on -/
def rowSl (r c a:Nat):List Sl:=(List.range a).map fun j=>toSl r (c+j)
/-- the slots of the first so many rows -/
def rowsSl (r c cs d:Nat):List Sl:=(List.range d).flatMap fun i=>rowSl (r+i) c cs
theorem rowSl_succ (r c a:Nat):rowSl r c (a+1)=rowSl r c a ++ [toSl r (c+a)]:=by simp [rowSl,List.range_succ]
theorem rowsSl_succ (r c cs d:Nat):rowsSl r c cs (d+1)=rowsSl r c cs d ++ rowSl (r+d) c cs:=by simp [rowsSl,List.range_succ]
theorem rowSl_pre {r c a b:Nat} (h:a≤b):rowSl r c a <+: rowSl r c b:=by
 obtain ⟨k,rfl⟩:=Nat.exists_eq_add_of_le h
 simp only [rowSl,List.range_add,List.map_append]
 exact List.prefix_append _ _
theorem rowsSl_pre {r c cs a b:Nat} (h:a≤b):rowsSl r c cs a <+: rowsSl r c cs b:=by
 obtain ⟨k,rfl⟩:=Nat.exists_eq_add_of_le h
 simp only [rowsSl,List.range_add,List.flatMap_append]
 exact List.prefix_append _ _
/-- one slot more is still ahead of the end -/
theorem slots_pre {r c cs d a rs:Nat} (hd:d < rs) (ha:a < cs):(rowsSl r c cs d ++ rowSl (r+d) c a) ++ [toSl (r+d) (c+a)] <+: rowsSl r c cs rs:=by
 rw [List.append_assoc,← rowSl_succ]
 refine List.IsPrefix.trans ?_ (rowsSl_pre (Nat.succ_le_of_lt hd))
 rw [rowsSl_succ]
 exact (List.prefix_append_right_inj _).2 (rowSl_pre ha)
theorem slots_len {r c cs d a rs:Nat} (hd:d < rs) (ha:a < cs):(rowsSl r c cs d ++ rowSl (r+d) c a).length < (rowsSl r c cs rs).length:=by
 have:=(slots_pre (r:=r) (c:=c) hd ha).length_le
 simp only [List.length_append,List.length_cons,List.length_nil] at this ⊢
 omega

/-- the five numbers of a cell at its place, in memory -/
def gcObj (r c rs cs:Nat) (i:Int):Obj:=.cells #[.int .i64 r,.int .i64 c,.int .i64 rs,.int .i64 cs,.int .i64 i] 50

set_option maxRecDepth 100000 in
set_option maxHeartbeats 1000000 in
theorem slots1_in (l B:Nat) (r c rs cs:Nat) (iv:Int) (hr:r+rs≤1000) (hc:c+cs≤1000) (J Jx:List Sl→World→Prop)
  (hY:∀ pre x W,J pre W→pre.length < (rowsSl r c cs rs).length→YieldAt Fence.wide 2 Tryz.prog l #[slV x.1] W fun e W' =>
   (e=.returned (.bool true)∧J (pre ++ [x]) W'∧BoxK B W W')∨(e=.returned (.bool false)∧Jx (pre ++ [x]) W'))
  (W:World) (hB:W.heap[B]?=some (gcObj r c rs cs iv)) (h0:J [] W) :
  CallsIn Fence.wide 3 Tryz.prog 124 #[.func (.yield l) #[] #[],.pointer (some ⟨B,0,none⟩)] W fun e W'=>(∃ v,e=.returned v) ∧
   ((∃ ys,ys=rowsSl r c cs rs∧J ys W')∨(∃ pre,pre <+: rowsSl r c cs rs∧Jx pre W')):=by
 have c0:W.cell? ⟨B,2,none⟩=some (.int .i64 rs):=by simp [World.cell?,hB,gcObj]
 refine callsIn_of_wp Tryz.func124 rfl trivial ?_ rfl
 simp only [Tryz.ntmps124,List.size_toArray,List.length_cons,List.length_nil,Nat.reduceAdd,Nat.reduceSub,Array.replicate_succ,Array.replicate_zero,List.push_toArray,List.append_toArray,List.nil_append,List.cons_append]
 gi_wp2
 gi_loopw [7] (fun i wr=>∃ d:Nat,i=.int .i64 d∧d≤rs∧wr.heap[B]?=some (gcObj r c rs cs iv)∧J (rowsSl r c cs d) wr) (fun i _=>rs+1 - (intOf i).toNat)
 case atStart=>exact ⟨0,rfl,by omega,hB,h0⟩
 case round =>
  obtain ⟨d,rfl,hd,hBr,hJ⟩:=hrel
  have c1:wr.cell? ⟨B,3,none⟩=some (.int .i64 cs):=by simp [World.cell?,hBr,gcObj]
  by_cases hlt:d < rs
  ·gi_wp2
   gi_loopw [12] (fun i wq=>∃ a:Nat,i=.int .i64 a∧a≤cs∧wq.heap[B]?=some (gcObj r c rs cs iv)∧J (rowsSl r c cs d ++ rowSl (r+d) c a) wq) (fun i _=>cs+1 - (intOf i).toNat)
   case atStart=>exact ⟨0,rfl,by omega,hBr,by simpa [rowSl] using hJ⟩
   case round =>
    obtain ⟨a,rfl,ha,hBq,hJq⟩:=hrel
    by_cases hla:a < cs
    ·have d0:wr.cell? ⟨B,0,none⟩=some (.int .i64 r):=by simp [World.cell?,hBq,gcObj]
     have d1:wr.cell? ⟨B,1,none⟩=some (.int .i64 c):=by simp [World.cell?,hBq,gcObj]
     have hx:(toSl (r+d) (c+a)).1=(r+d,c+a):=toSl_val (by omega)
     obtain ⟨fn,tmps,assign,body,hy,hR⟩:=hY _ (toSl (r+d) (c+a)) wr hJq (slots_len hlt hla)
     rw [hx] at hy
     dsimp only [slV] at hy
     clear hx
     have HP:=Hid.intro (slots_pre (r:=r) (c:=c) hlt hla)
     have HS:=Hid.intro (rowSl_succ (r+d) c a)
     have e1:((r+d:Nat):Int)=(r:Int)+d:=by omega
     have e2:((c+a:Nat):Int)=(c:Int)+a:=by omega
     simp only [e1,e2] at hy
     clear e1 e2
     gi_wp2
     refine hR.mono ?_
     rintro e W3 (⟨rfl,hJ3,hk3⟩ | ⟨rfl,hJx3⟩)
     ·have hB3:=Eq.trans hk3 hBq
      gi_wp2
      go_roundw
      case rel=>exact ⟨a+1,by go_num,by omega,hB3,by rw [HS.out,← List.append_assoc];exact hJ3⟩
      case measure=>simp [intOf];omega
     ·gi_wp2
      refine bodyPost_ret (results_none rfl _ _ _) rfl ?_
      exact ⟨⟨_,rfl⟩,.inr ⟨_,HP.out,hJx3⟩⟩
    ·have ea:Hid (a=cs):=Hid.intro (by omega)
     have HS:=Hid.intro (rowsSl_succ r c cs d)
     gi_wp2
     go_roundw
     case rel=>exact ⟨d+1,by go_num,by omega,hBq,by have h:=hJq;rw [ea.out] at h;rw [HS.out];exact h⟩
     case measure=>simp [intOf];omega
  ·have ed:Hid (d=rs):=Hid.intro (by omega)
   gi_wp2
   go_end0
   exact ⟨⟨_,rfl⟩,.inl ⟨_,rfl,by rw [← ed.out];exact hJ⟩⟩

/-- what the value that slotsOf hands back does, whatever loop goes over it -/
theorem slots_stops (B r c rs cs:Nat) (iv:Int) (hr:r+rs≤1000) (hc:c+cs≤1000) (w:World) (hBn:B < w.heap.size) (hb:w.heap[B]?=some (gcObj r c rs cs iv)) :
  SeqStopsK Fence.wide 3 Tryz.prog 124 #[.pointer (some ⟨B,0,none⟩)] (fun x:Sl=>#[slV x.1]) (BoxK B) (fun ys=>ys=rowsSl r c cs rs) (fun pre=>pre <+: rowsSl r c cs rs) (rowsSl r c cs rs).length w:=fun l J Jx W hW _ _ hY h0 =>
 slots1_in l B r c rs cs iv hr hc J Jx hY W ((hW.block B hBn).trans hb) h0
/-- the cell at its place, as it is handed in -/
def gcV (r c rs cs:Nat) (i:Int):Value:=.agg #[.int .i64 r,.int .i64 c,.int .i64 rs,.int .i64 cs,.int .i64 i]
set_option maxHeartbeats 400000 in
theorem slotsOf_any (r c rs cs:Nat) (i:Int) (w:World) :
  Calls Tryz.prog 101 #[gcV r c rs cs i] w fun e w'=>e=.returned (.func (.func 124) #[] #[.pointer (some ⟨w.heap.size,0,none⟩)])∧w'=w.alloc (gcObj r c rs cs i):=by
 unfold gcV gcObj
 go_enter Tryz.func101,Tryz.ntmps101
 go_wp2
 go_ret
 exact ⟨rfl,rfl⟩
end Go.Proofs.YtcbibdhlkdcmiafGreat
namespace Go.Proofs.YtcbibdhlkdcmiafGreat
open Go.RowKit Go.Shelf
open Go.Maps (Keyed)
open Go.ChangeMaps (setBlock)
open Go.WideElems (Fit)

theorem tkLaidOut:laidOutB Tryz.prog=true:=by kernel_rfl
theorem tkLaw:WideMaps.KeyLaw Tryz.prog 130:=deep_law_laid tkLaidOut (m:=2) (by omega) (of_decide_eq_true (by kernel_rfl)) (by kernel_rfl) (by rw [Tryz.underlying130])
theorem tkKeyed:Keyed Tryz.prog 130:=Keyed.of_law tkLaw
theorem tkZero (w:World):(zeroValue 3).run Tryz.prog w=.ok (.int .i64 0) w:=by kernel_rfl
/-- what a slot reads as where it is a key -/
def slK (x:Nat × Nat):Lit:=.string (keyBytes [.int .i64 x.1,.int .i64 x.2])
theorem wfNat {n:Nat} (h:n≤1000):(Lit.int .i64 (n:Int)).wf=true :=
 WalkArith.wf_i64 (by omega)
theorem slKey (x:Sl):keyOf Tryz.prog 130 (slV x.1)=some (slK x.1):=by
 have wa:=wfNat x.2.1
 have wb:=wfNat x.2.2
 have hkt:Tryz.prog.keyType 130=true:=by kernel_rfl
 have hcs:Tryz.prog.cellsOf 130=2:=by kernel_rfl
 have hci:Tryz.prog.cellsOf 3=1:=by kernel_rfl
 obtain ⟨m,hm⟩:∃ m,Tryz.prog.types.size=m+1:=⟨Tryz.prog.types.size - 1,by have:0 < Tryz.prog.types.size:=of_decide_eq_true (by kernel_rfl);omega⟩
 unfold keyOf slV slK
 simp only [Tryz.underlying130]
 rw [if_pos (by simp [hkt,Value.formed,Tryz.underlying130,hcs]),hm]
 unfold Program.keyLits
 simp [Tryz.underlying130,Value.cells,hcs,hci,Program.keyLits,Tryz.underlying3,wa,wb]

section
variable {H:Type} {P:Program} {w:World} {t k e:TypeId} {R:Value→Option (DataW H × List MemPlace)} {b n:Nat} {D:DataW H}

/-- 'm[k]++' AT A KEY THAT IS NOT THERE: the entry is made, with the zero value; then the value is stored into it. -/
theorem entry_any (hown:w.ownsMap P k R b n D) (K:Keyed P k) (ht:P.underlying t=some (.map k e)) (hn:n < maxLen) {z:Value} (hz:∀ u:World,(zeroValue e).run P u=.ok z u) {zd:DataW H} {zp:List MemPlace} (hzd:R z=some (zd,zp))
  {key:Value} {kl:Lit} (hkey:keyOf P k key=some kl) {val:Value} {d:DataW H} {ps:List MemPlace} (hv:R val=some (d,ps)) :
  ∃ (v0:Value) (st:Nat) (w1 w2:World),(Instr.mapEntry t (.map (some b)) key).run P w=.ok (.tuple #[v0,goInt st]) w1∧w.mapTurned w1 b ∧
   (∀ v,(Instr.lookup t (.map (some b)) key false).run P w=.ok v w→(Instr.lookup t (.map (some b)) key false).run P w1=.ok v w1) ∧
   (Instr.entryStore t (.map (some b)) (goInt st) val).run P w1=.ok () w2∧w2.ownsMap P k R b (n+1) (D.put kl d)∧w.mapTurned w2 b:=by
 have hself:=hown.turned_refl
 obtain ⟨u1,hu1,ho1,hm1⟩:=hown.store K ht hn hkey hzd
 obtain ⟨u2,hu2,ho2,hm2⟩:=hown.store K ht hn hkey hv
 have hown':=hown
 obtain ⟨es,clock,hb,F,hs,rfl⟩:=hown
 obtain ⟨s1,s2,_⟩:=F.stamped
 have hst:∀ (es1:Array MapEntry) (c1 st i:Nat) (W:World),W.heap[b]?=some (.map es1 c1)→es1.findIdx? (fun e=>((e.born:Nat):Int) == ((st:Nat):Int))=some i →
   (Instr.entryStore t (.map (some b)) (goInt st) val).run P W=.ok () (setBlock W b (.map (es1.modify i fun e=>{ e with val:=val }) c1)):=fun es1 c1 st i W hW hi=>by
  simp [Instr.entryStore,MapKept.run_getObj_map hW,asInt,asIntOf,goInt,hi,MapKept.run_setObj_map _ hW,Result.andThen,setBlock]
 rcases K.find w hkey es.toList F.keys with ⟨h1,hno⟩ | ⟨j,e0,h1,h2,h3⟩
 ·have r1:(Instr.mapUpdate t (.map (some b)) key z).run P w=.ok () (setBlock w b (.map (es.push ⟨key,z,clock⟩) (clock+1))):=by
   simp [Instr.mapUpdate,run_underlying ht,MapKept.run_getObj_map hb,K.check w false hkey,h1,MapKept.run_setObj_map _ hb,Result.andThen,setBlock]
  have r2:(Instr.mapUpdate t (.map (some b)) key val).run P w=.ok () (setBlock w b (.map (es.push ⟨key,val,clock⟩) (clock+1))):=by
   simp [Instr.mapUpdate,run_underlying ht,MapKept.run_getObj_map hb,K.check w false hkey,h1,MapKept.run_setObj_map _ hb,Result.andThen,setBlock]
  rw [hu1] at r1
  rw [hu2] at r2
  simp only [Result.ok.injEq,true_and] at r1 r2
  subst r1 r2
  have hw2:=ChangeMaps.heap_setBlock_same hb (.map (es.push ⟨key,z,clock⟩) (clock+1))
  refine ⟨z,clock,_,_,?_,hm1,?_,?_,ho2,hm2⟩
  ·simp [Instr.mapEntry,run_underlying ht,MapKept.run_getObj_map hb,K.check w false hkey,h1,hz,MapKept.run_setObj_map _ hb,Result.andThen,setBlock]
  ·intro v hv
   have e0:(Instr.lookup t (.map (some b)) key false).run P w=.ok z w:=by
    rcases Maps.fit_look false K ht (hz w) hb F hkey with ⟨h,_⟩ | ⟨e0,_,hm,hk,_⟩
    ·exact h
    ·exact absurd hk (hno e0 hm)
   rw [e0] at hv
   simp only [Result.ok.injEq,and_true] at hv
   subst hv
   obtain ⟨es',ck',hb',F',_,_⟩:=ho1
   rw [hw2] at hb'
   simp only [Option.some.injEq,Obj.map.injEq] at hb'
   obtain ⟨rfl,rfl⟩:=hb'
   rcases Maps.fit_look false K ht (hz _) hw2 F' hkey with ⟨h,hn',_⟩ | ⟨e1,_,hm,hk,h,_⟩
   ·exact h
   ·rw [h]
    have:e1.val=z:=by
     simp only [Array.toList_push,List.mem_append,List.mem_singleton] at hm
     rcases hm with hm | rfl
     ·exact absurd hk (hno e1 hm)
     ·rfl
    simp [this]
  ·have hidx:(es.push ⟨key,z,clock⟩).findIdx? (fun e=>((e.born:Nat):Int) == ((clock:Nat):Int))=some es.size:=by
    rw [WideElems.findIdx_arr]
    have:=WideElems.findIdx_born (l:=(es.push ⟨key,z,clock⟩).toList) (j:=es.size) (e0:=⟨key,z,clock⟩) (by
     simp only [Array.toList_push,List.map_append,List.map_cons,List.map_nil]
     refine List.nodup_append.2 ⟨s2,by simp,fun a ha c hc e1=>?_⟩
     simp only [List.mem_singleton] at hc
     obtain ⟨x,hx,rfl⟩:=List.mem_map.1 ha
     have:=s1 x hx
     omega) (by simp)
    exact this
   have hmod:(es.push ⟨key,z,clock⟩).modify es.size (fun e=>{ e with val:=val })=es.push ⟨key,val,clock⟩:=by
    apply Array.ext'
    rw [Array.toList_modify,Array.toList_push,Array.toList_push,← Array.length_toList,WideElems.modify_last]
   rw [hst _ _ _ _ _ hw2 hidx,hmod]
   simp [setBlock]
 ·have hj:es[j]?=some e0:=by simpa using h2
  have hsame:es.modify j (fun e=>{ e with key:=key })=es:=by
   apply Array.ext'
   rw [Array.toList_modify,ChangeMaps.modify_eq_set _ _ _ _ h2]
   have:({ e0 with key:=key }:MapEntry)=e0:=by rw [← h3]
   rw [this]
   exact WideElems.set_self _ _ _ h2
  have hw:setBlock w b (.map es clock)=w:=by
   have e:w.heap.setIfInBounds b (.map es clock)=w.heap:=by
    apply Array.ext_getElem?
    intro i
    by_cases hi:i=b
    ·subst hi
     exact (ChangeMaps.heap_setBlock_same hb _).trans hb.symm
    ·exact ChangeMaps.heap_setBlock_other hb _ hi
   unfold setBlock
   rw [e]
  have r2:(Instr.mapUpdate t (.map (some b)) key val).run P w=.ok () (setBlock w b (.map (es.modify j (fun e'=>{ e' with key:=key,val:=val })) clock)):=by
   simp [Instr.mapUpdate,run_underlying ht,MapKept.run_getObj_map hb,K.check w false hkey,h1,hj,h3,K.stays w hkey,MapKept.run_setObj_map _ hb,Result.andThen,setBlock]
  rw [hu2] at r2
  simp only [Result.ok.injEq,true_and] at r2
  subst r2
  have r1:(Instr.mapEntry t (.map (some b)) key).run P w=.ok (.tuple #[e0.val,goInt e0.born]) (setBlock w b (.map es clock)):=by
   simp [Instr.mapEntry,run_underlying ht,MapKept.run_getObj_map hb,K.check w false hkey,h1,hj,h3,K.stays w hkey,hsame,MapKept.run_setObj_map _ hb,Result.andThen,setBlock]
  rw [hw] at r1
  have hidx:es.findIdx? (fun e=>((e.born:Nat):Int) == ((e0.born:Nat):Int))=some j:=by
   rw [WideElems.findIdx_arr]
   exact WideElems.findIdx_born s2 h2
  have hmod:es.modify j (fun e=>{ e with val:=val })=es.modify j (fun e'=>{ e' with key:=key,val:=val }):=by
   apply Array.ext'
   rw [Array.toList_modify,Array.toList_modify,ChangeMaps.modify_eq_set _ _ _ _ h2,ChangeMaps.modify_eq_set _ _ _ _ h2,← h3]
  exact ⟨e0.val,e0.born,w,_,r1,hself,fun v hv=>hv,by rw [hst _ _ _ _ _ hb hidx,hmod],ho2,hm2⟩
end

/-- the map tells how often each slot is in a list -/
def TakAt (w:World) (B:Nat) (L:List (Nat × Nat)):Prop :=
 ∃ D:DataW Unit,w.ownsMap Tryz.prog 130 (plainElem Tryz.prog 3) B L.length D∧(L.Nodup→Maps.size D=L.length)∧(∀ x:Sl,Maps.has D (slK x.1)=decide (x.1 ∈ L)) ∧
  ∀ x:Sl,D.atKey (slK x.1) (.lit (.int .i64 0))=.lit (.int .i64 (L.count x.1:Nat))
theorem TakAt.lt {w:World} {B:Nat} {L:List (Nat × Nat)} (h:TakAt w B L):B < w.heap.size:=h.choose_spec.1.lt
theorem TakAt.of_block {w w':World} {B:Nat} {L:List (Nat × Nat)} (h:TakAt w B L) (hb:w'.heap[B]?=w.heap[B]?):TakAt w' B L:=by
 obtain ⟨D,⟨es,clock,h1,h2⟩,h3⟩:=h
 exact ⟨D,⟨es,clock,hb.trans h1,h2⟩,h3⟩
/-- the block is no cells -/
theorem TakAt.notCells {w:World} {B:Nat} {L:List (Nat × Nat)} (h:TakAt w B L):∃ o,w.heap[B]?=some o∧o.isCells=false:=by
 obtain ⟨D,⟨es,clock,h1,_⟩,_⟩:=h
 exact ⟨_,h1,rfl⟩
set_option maxRecDepth 100000 in
theorem slK_inj {x y:Sl} (h:slK x.1=slK y.1):x.1=y.1:=by
 have:=tkKeyed.inj (slKey x) ((slKey y).trans (by rw [h]))
 have h2:x.1.1=y.1.1∧x.1.2=y.1.2:=by
  simp [slV] at this
  omega
 exact Prod.ext h2.1 h2.2
set_option maxRecDepth 100000 in
/-- a look-up -/
theorem TakAt.look {w:World} {B:Nat} {L:List (Nat × Nat)} (h:TakAt w B L) (x:Sl):(Instr.lookup 88 (.map (some B)) (slV x.1) false).run Tryz.prog w=.ok (.int .i64 (L.count x.1:Nat)) w:=by
 obtain ⟨D,hown,_,_,hat⟩:=h
 obtain ⟨c,hrun,hc,_⟩:=hown.lookup_int tkKeyed Tryz.underlying88 Tryz.underlying3 (tkZero _) (slKey x)
 rw [hat x] at hc
 rw [hrun]
 have e:((L.count x.1:Nat):Int)=c:=by injection hc with hc;injection hc
 rw [e]
set_option maxRecDepth 100000 in
theorem TakAt.len {w:World} {B:Nat} {L:List (Nat × Nat)} (h:TakAt w B L) (hL:L.Nodup) (ty:TypeId):(Builtin.len_ #[88] ty #[.map (some B)]).run Tryz.prog w=.ok (.int .i64 L.length) w:=by
 obtain ⟨D,hown,hs,_⟩:=h
 rw [hown.len Tryz.underlying88 ty,hs hL]
set_option maxRecDepth 100000 in
theorem TakAt.new (w:World):TakAt (w.alloc (.map #[] 0)) w.heap.size [] :=
 ⟨.map [],World.ownsMap_made _ _ _ _,fun _=>rfl,fun x=>by simp [Maps.has],fun x=>by simp [DataW.atKey]⟩
set_option maxRecDepth 100000 in
/-- one slot more -/
theorem TakAt.step {w:World} {B:Nat} {L:List (Nat × Nat)} (h:TakAt w B L) (x:Sl) (hl:L.length < 1000000) :
  ∃ (v0:Value) (st:Nat) (w1 w2:World),(Instr.mapEntry 88 (.map (some B)) (slV x.1)).run Tryz.prog w=.ok (.tuple #[v0,goInt st]) w1 ∧
   (Instr.lookup 88 (.map (some B)) (slV x.1) false).run Tryz.prog w1=.ok (.int .i64 (L.count x.1:Nat)) w1∧w.mapTurned w1 B ∧
   (Instr.entryStore 88 (.map (some B)) (goInt st) (.int .i64 ((L.count x.1:Nat)+1))).run Tryz.prog w1=.ok () w2∧TakAt w2 B (L ++ [x.1])∧w.mapTurned w2 B:=by
 have hlook:=h.look x
 obtain ⟨D,hown,hs,hh,hat⟩:=h
 have hD:=hown.isMap
 have hT:=hown.tidy tkKeyed
 have hkl:=tkKeyed.key (slKey x)
 have hcl:=L.count_le_length (a:=x.1)
 have hwf:(Lit.int .i64 ((L.count x.1:Nat)+1)).wf=true:=WalkArith.wf_i64 (by omega)
 obtain ⟨v0,st,w1,w2,e1,m1,l1,e2,o2,m2⟩:=entry_any hown tkKeyed Tryz.underlying88 (by unfold maxLen;omega) tkZero (plainElem_int Tryz.underlying3 (a:=0) (by decide)) (slKey x) (plainElem_int Tryz.underlying3 hwf)
 refine ⟨v0,st,w1,w2,e1,l1 _ hlook,m1,e2,⟨_,by simpa using o2,?_,?_,?_⟩,m2⟩
 ·intro hn
  have hx:x.1 ∉ L:=by
   have:=(List.nodup_append.1 hn).2.2
   intro hx
   exact this _ hx _ (by simp) rfl
  have hab:Maps.has D (slK x.1)=false:=by rw [hh x];simpa using hx
  rw [Maps.size_put hT,hab,hs (List.nodup_append.1 hn).1];simp
 ·intro y
  by_cases hy:y.1=x.1
  ·rw [hy,Maps.has_put_same hD hkl];simp
  ·rw [Maps.has_put_other (fun h=>hy (slK_inj h)),hh y];simp [hy]
 ·intro y
  by_cases hy:y.1=x.1
  ·rw [hy,Maps.atKey_put_same hD hkl,List.count_append];simp
  ·rw [Maps.atKey_put_other (fun h=>hy (slK_inj h)),hat y,List.count_append];simp [Ne.symm hy]
end Go.Proofs.YtcbibdhlkdcmiafGreat
namespace Go.Proofs.YtcbibdhlkdcmiafGreat
open Go.RowKit Go.Shelf
attribute [local go_sem] Oper.semAt_some

/-- a block of cells abides what turns blocks that are none -/
theorem obj_own {β:Type} (B:Nat) (f:β→Obj) (hf:∀ s,(f s).isCells=true):Own (fun s W=>W.heap[B]?=some (f s)):=fun s X Y row hs hg hrow =>
 (hg.block B (Array.getElem?_eq_some_iff.1 hs).1 (fun e'=>by obtain ⟨o,ho,hc⟩:=hrow B e'.symm;rw [hs] at ho;cases ho;rw [hf] at hc;cases hc)).trans hs
theorem size_own {β:Type} (B n:Nat):OwnFrom B (fun (_:β) W=>n≤W.heap.size):=fun _ _ _ _ hs hg _=>Nat.le_trans hs hg.size
theorem boxC_own {β:Type} (B:Nat) (t:TypeId) (v:Value):Own (fun (_:β) W=>Boxed W B t v):=boxed_own B t (fun _=>v)
/-- whether none of a cell's slots is taken -/
def freeIn (L:List (Nat × Nat)) (r c rs cs:Nat):Bool:=(rowsSl r c cs rs).all fun x=>decide (x.1 ∉ L)

set_option maxRecDepth 100000 in
set_option maxHeartbeats 2000000 in
theorem allFree_any (r c rs cs:Nat) (i:Int) (hr:r+rs≤1000) (hc:c+cs≤1000) (w:World) (B:Nat) (L:List (Nat × Nat)) (hT:TakAt w B L) :
  Calls Tryz.prog 61 #[.map (some B),gcV r c rs cs i] w fun e w'=>e=.returned (.bool (freeIn L r c rs cs))∧Below w.heap.size w w':=by
 have hlt:=hT.lt
 refine (callsIn_wide (n:=4)).1 ?_
 unfold gcV
 refine callsIn_of_wp_marks Tryz.func61 rfl trivial ?_ rfl
 simp only [Tryz.ntmps61,List.size_toArray,List.length_cons,List.length_nil,Nat.reduceAdd,Nat.reduceSub,Array.replicate_succ,Array.replicate_zero,List.push_toArray,List.append_toArray,List.nil_append,List.cons_append]
 gi_wp2_with (refine ⟨trivial,?_⟩;gi_at_call 101;refine (callsIn_wide.2 (slotsOf_any r c rs cs i _)).mono ?_;rintro e w' ⟨rfl,rfl⟩)
 obtain ⟨W0,hW0⟩:∃ W0,((((w.alloc (.cells #[.map (some B)] 88)).alloc (.cells #[.int .i64 r,.int .i64 c,.int .i64 rs,.int .i64 cs,.int .i64 i] 50)).alloc (.cells #[.bool false] 4)).alloc (gcObj r c rs cs i))=W0:=⟨_,rfl⟩
 have hsz:W0.heap.size=w.heap.size+4:=by rw [← hW0];simp
 have hB0:Below w.heap.size w W0:=by rw [← hW0];exact k_alloc (k_alloc (k_alloc (k_alloc (Below.refl _ _) _) _) _) _
 have hx0:Boxed W0 w.heap.size 88 (.map (some B)):=by
  rw [← hW0];exact (((Boxed.new w _ _).alloc _).alloc _).alloc _
 have hx2:Boxed W0 (w.heap.size+2) 4 (.bool false):=by
  have:=(Boxed.new ((w.alloc (.cells #[.map (some B)] 88)).alloc (.cells #[.int .i64 r,.int .i64 c,.int .i64 rs,.int .i64 cs,.int .i64 i] 50)) 4 (.bool false)).alloc (gcObj r c rs cs i)
  rw [hW0] at this
  simpa using this
 have hx3:W0.heap[w.heap.size+3]?=some (gcObj r c rs cs i):=by
  have:=World.alloc_heap_new (((w.alloc (.cells #[.map (some B)] 88)).alloc (.cells #[.int .i64 r,.int .i64 c,.int .i64 rs,.int .i64 cs,.int .i64 i] 50)).alloc (.cells #[.bool false] 4)) (gcObj r c rs cs i)
  rw [hW0] at this
  simpa using this
 rw [hW0]
 clear hW0
 refine wpIn_rangeFunc_ownH rfl (by omega) (gf:=124) (lb:=#[.pointer (some ⟨w.heap.size+3,0,none⟩)]) rfl trivial (enters_of Tryz.func124 (by kernel_rfl) rfl)
  (slots_stops (w.heap.size+3) r c rs cs i hr hc W0 (by omega) hx3) (fun h k=>BoxK.trans h k) (BoxK_b (by omega)) (Below.refl _ _) (fun _=>rfl)
  (fun pre W=>(Boxed W w.heap.size 88 (.map (some B))∧Boxed W (w.heap.size+2) 4 (.bool false))∧Below w.heap.size w W∧w.heap.size+4≤W.heap.size∧∀ x ∈ pre,x.1 ∉ L)
  (fun c pre W=>c=.ret∧Boxed W (w.heap.size+2) 4 (.bool false)∧Below w.heap.size w W∧∃ x ∈ pre,x.1 ∈ L)
  (OwnFrom.and (OwnFrom.and (Own.from (boxC_own _ _ _) _) (Own.from (boxC_own _ _ _) _)) (OwnFrom.and (ownFrom_below (Nat.le_refl _) (by omega)) (OwnFrom.and (size_own _ _) (ownFrom_pure _ _))))
  (fun c=>OwnFrom.and (ownFrom_pure _ _) (OwnFrom.and (Own.from (boxC_own _ _ _) _) (OwnFrom.and (ownFrom_below (Nat.le_refl _) (by omega)) (ownFrom_pure _ _))))
  ⟨⟨hx0,hx2⟩,hB0,by omega,by simp⟩
  (fun x a' W=>∃ Bx,w.heap.size+4≤Bx∧W.heap[Bx]?=some (.cells #[.int .i64 x.1.1,.int .i64 x.1.2] 130) ∧
   a'={ tmps:=#[.map (some B),gcV r c rs cs i,.pointer (some ⟨w.heap.size,0,none⟩),.pointer (some ⟨w.heap.size+1,0,none⟩),.pointer (some ⟨w.heap.size+1+1,0,none⟩),.pointer (some ⟨Bx,0,none⟩),gcV r c rs cs i,.func (.func 124) #[] #[.pointer (some ⟨w.heap.size+1+1+1,0,none⟩)],slV x.1,undef,undef,undef,undef],defers:=[] })
  (fun x a' _ A B row hs hg hr=>by
   obtain ⟨Bx,h1,h2,h3⟩:=hs
   exact ⟨Bx,h1,obj_own Bx (fun _:Unit=>.cells #[.int .i64 x.1.1,.int .i64 x.1.2] 130) (fun _=>rfl) () A B row h2 hg (fun r e=>(hr r e).2),h3⟩)
  ?assign ?body ?done ?stop
 case assign =>
  rintro l pre x W K ⟨⟨hb1,hb2⟩,hB,hs4,hp⟩ hK
  dsimp only [slV]
  gi_wp2
  refine hK _ _ ((KeepsOthers.alloc _ _).from _) ?_ ⟨⟨hb1.alloc _,hb2.alloc _⟩,k_alloc hB _,by simp;omega,hp⟩ ⟨W.heap.size,hs4,World.alloc_heap_new _ _,rfl⟩
  show (W.alloc _).heap[w.heap.size+3]?=_
  exact Below.heap_alloc _ _ _ (by omega)
 case body =>
  rintro l pre x a' W hl ⟨r,hr⟩ ⟨⟨hb1,hb2⟩,hB,hs4,hp⟩ ⟨Bx,h1,h2,rfl⟩ _
  have c1:=hb1.cell
  have c2:=hb2.cell
  have f2:=hb2.frozen
  have d0:W.cell? ⟨Bx,0,none⟩=some (.int .i64 x.1.1):=by simp [World.cell?,h2]
  have d1:W.cell? ⟨Bx,1,none⟩=some (.int .i64 x.1.2):=by simp [World.cell?,h2]
  have hlook:=(hT.of_block (hB.block B hlt)).look x
  unfold slV at hlook
  by_cases hx:x.1 ∈ L
  ·obtain ⟨m,hm⟩:∃ m,L.count x.1=m+1:=⟨L.count x.1 - 1,by have:=List.count_pos_iff.2 hx;omega⟩
   rw [hm] at hlook
   clear hm
   gi_wp2
   exact ⟨(KeepsOthers.setCell _ _ _).from _,rfl,hb2.set _,hB.setCell (p:=⟨w.heap.size+1+1,0,none⟩) (by simp;omega) _,x,by simp,hx⟩
  ·rw [List.count_eq_zero.2 hx] at hlook
   gi_wp2
   exact ⟨(KeepsOthers.refl _).from _,rfl,⟨hb1,hb2⟩,hB,hs4,fun y hy=>by
    rcases List.mem_append.1 hy with h | h
    ·exact hp y h
    ·cases List.mem_singleton.1 h;exact hx⟩
 case done =>
  rintro D ys W hD rfl ⟨⟨hb1,hb2⟩,hB,hs4,hp⟩ hK
  have c2:=hb2.cell
  have f2:=hb2.frozen
  gi_wp2
  have hk2:=(KeepsOthers.setCell W ⟨w.heap.size+1+1,0,none⟩ (.bool true)).same D _ hK rfl
  refine ⟨by simp,.inl ⟨_,_,rfl,run_takeDeferred hk2,?_⟩⟩
  have hc5:=cell_kept (hb2.set (.bool true)).cell (grownBy_putObj' _ D (.deferred none)) (fun r e=>by cases e;exact ⟨_,hk2,rfl⟩)
  have hfr:freeIn L r c rs cs=true:=List.all_eq_true.2 (fun x hx=>decide_eq_true (hp x hx))
  refine ⟨.bool true,?_,by rw [hfr],(hB.setCell (p:=⟨w.heap.size+1+1,0,none⟩) (by simp;omega) _).trans (belowK_b (w:=w) (Nat.le_refl _) _ D _ _ (by omega) hk2 rfl rfl)⟩
  simp [results,Tryz.f61,go_sem,hc5]
 case stop =>
  rintro D c pre W hD hpre ⟨rfl,hb2,hB,x,hx,hxL⟩ hK
  have c2:=hb2.cell
  gi_wp2
  refine ⟨by simp,.inl ⟨_,_,rfl,run_takeDeferred hK,?_⟩⟩
  have hc5:=cell_kept hb2.cell (grownBy_putObj' _ D (.deferred none)) (fun r e=>by cases e;exact ⟨_,hK,rfl⟩)
  have hfr:freeIn L r c rs cs=false:=by
   cases hf:freeIn L r c rs cs with
   | false=>rfl
   | true=>exact absurd hxL (of_decide_eq_true (List.all_eq_true.1 hf x (hpre.subset hx)))
  refine ⟨.bool false,?_,by rw [hfr],hB.trans (belowK_b (w:=w) (Nat.le_refl _) W D _ _ (by omega) hK rfl rfl)⟩
  simp [results,Tryz.f61,go_sem,hc5]
end Go.Proofs.YtcbibdhlkdcmiafGreat
namespace Go.Proofs.YtcbibdhlkdcmiafGreat
open Go.RowKit

theorem opIn_round {n l:Nat} {P:Program} {o:Oper} {a:Act} {w:World} {K:Act→World→Prop} {Q:Exit→Act→World→Prop} (hd:∀ c,o.op ≠ .defer c) (h:o.wpIn Fence.wide n P a w K Q):o.wpIn (Fence.wide.inRound l) n P a w K Q:=by
 unfold Oper.wpIn at *
 refine ⟨h.1,?_⟩
 have h2:=h.2
 rw [Oper.semAt_plain _ _ _ hd] at h2 ⊢
 generalize (execOp a.eval o).run P w=r at h2 ⊢
 exact h2
/-- whether no operation is a defer statement -/
def noDefer (ops:List Oper):Bool:=ops.all (fun o=>match o.op with | .defer _=>false | _=>true)
theorem noDefer_get {ops:List Oper} (h:noDefer ops=true) {i:Nat} {o:Oper} (ho:ops.toArray[i]?=some o):∀ c,o.op ≠ .defer c:=by
 intro c hc
 have hm:o ∈ ops:=by
  rw [List.getElem?_toArray] at ho
  exact List.mem_of_getElem? ho
 have:=List.all_eq_true.1 h o hm
 rw [hc] at this
 cases this
theorem anyIn_round {n l:Nat} {P:Program} {md:Region.Mode} {ops:List Oper} {Q:Exit→Act→World→Prop} (hd:noDefer ops=true):∀ (fuel:Nat) (listed:Array Bool) (a:Act) (w:World),
  wpAnyIn Fence.wide n P md ops.toArray Q fuel listed a w→wpAnyIn (Fence.wide.inRound l) n P md ops.toArray Q fuel listed a w
 | 0,_,_,_,h=>h
 | fuel+1,_,_,_,h=>⟨h.1,fun i hi=>by
   have h2:=h.2 i hi
   unfold wpOpIn at h2 ⊢
   cases ho:ops.toArray[i]? with
   | none=>rw [ho] at h2;exact anyIn_round hd fuel _ _ _ h2
   | some o =>
    rw [ho] at h2
    dsimp only at h2 ⊢
    split
    ·rename_i hw
     rw [if_pos hw] at h2
     exact opIn_round (noDefer_get hd ho) (Oper.wpIn_mono (fun a w hh=>anyIn_round hd fuel _ a w hh) h2)
    ·rename_i hw
     rw [if_neg hw] at h2
     exact ⟨h2.1,anyIn_round hd fuel _ _ _ h2.2⟩⟩
/-- a region that only reads, in a round -/
theorem quietRound {n l id:Nat} {P:Program} {Q:Exit→Act→World→Prop} {a:Act} {w:World} {ops:List Oper} (hd:noDefer ops=true) (hm:P.follows .mixedOrders=true) (hB:Region.lexB .any ops.toArray=true)
  (h:wpQuietIn Fence.wide n P ops.toArray (fun w'=>∃ n,w'=w.drewN n) (fun a'=>∀ w',(∃ n,w'=w.drewN n)→Q .normal a' w') ops a):(Code.region id ops.toArray true).wpIn (Fence.wide.inRound l) n P Q a w:=by
 have hB':=hB
 simp only [Region.lexB,Bool.and_eq_true] at hB'
 refine wpIn_region_any hm (anyIn_round hd _ _ _ _ (wpAnyIn_of_quiet (Q:=fun a'=>∀ w',(∃ n,w'=w.drewN n)→Q .normal a' w') (C:=fun w'=>∃ n,w'=w.drewN n) rfl (fun _ w' hw' h=>h w' hw') _ _ _ _ ⟨1,rfl⟩ ?_))
 have:=wpAnyQIn_lex (F:=Fence.wide) (n:=n) (C:=fun w'=>∃ n,w'=w.drewN n) (md:=.any) hB'.1 ops 0 (Array.replicate ops.toArray.size false) a (by simp) (by simpa using hB'.2) h
 simpa using this
/-- an operation of a region that may come up alone -/
theorem ready1 {F:Fence} {n:Nat} {P:Program} {md:Region.Mode} {ops:Array Oper} {Q:Exit→Act→World→Prop} {fuel:Nat} {listed:Array Bool} {a:Act} {w:World} {i:Nat} {o:Oper} (hr:Region.ready md ops listed=[i]) (ho:ops[i]?=some o)
  (h:∀ K':Act→World→Prop,(∀ a w,wpAnyIn F n P md ops Q fuel (listed.setIfInBounds i true) a w→K' a w)→if Region.wanted o (yielded ops a.tmps)=true then Oper.wpIn F n P o a w K' Q else (∀ f,o.about P w a.eval=some f→F.fn f)∧K' (a.put o.dst undef) w) :
  wpAnyIn F n P md ops Q (fuel+1) listed a w:=wpAnyIn_ready hr (by simp) (AllReadyIn.cons ho h (fun _ hj=>by cases hj))
theorem ready2 {F:Fence} {n:Nat} {P:Program} {md:Region.Mode} {ops:Array Oper} {Q:Exit→Act→World→Prop} {fuel:Nat} {listed:Array Bool} {a:Act} {w:World} {i j:Nat} {o o':Oper} (hr:Region.ready md ops listed=[i,j]) (ho:ops[i]?=some o) (ho':ops[j]?=some o')
  (h:∀ K':Act→World→Prop,(∀ a w,wpAnyIn F n P md ops Q fuel (listed.setIfInBounds i true) a w→K' a w)→if Region.wanted o (yielded ops a.tmps)=true then Oper.wpIn F n P o a w K' Q else (∀ f,o.about P w a.eval=some f→F.fn f)∧K' (a.put o.dst undef) w)
  (h':∀ K':Act→World→Prop,(∀ a w,wpAnyIn F n P md ops Q fuel (listed.setIfInBounds j true) a w→K' a w)→if Region.wanted o' (yielded ops a.tmps)=true then Oper.wpIn F n P o' a w K' Q else (∀ f,o'.about P w a.eval=some f→F.fn f)∧K' (a.put o'.dst undef) w) :
  wpAnyIn F n P md ops Q (fuel+1) listed a w:=wpAnyIn_ready hr (by simp) (AllReadyIn.cons ho h (AllReadyIn.cons ho' h' (fun _ hj=>by cases hj)))
/-- an append in a region that draws its order -/
theorem ready_append {F:Fence} {n:Nat} {P:Program} {md:Region.Mode} {ops:Array Oper} {Q:Exit→Act→World→Prop} {fuel:Nat} {listed:Array Bool} {a:Act} {w:World} {j:Nat} {o:Oper} (hr:Region.ready md ops listed=[j]) (ho:ops[j]?=some o) (hg:o.guard=none)
  (s x:Operand) (t:TypeId) (hop:o.op=Op.call { callee:=Callee.builtin Builtin.append,args:=#[s,x],argTypes:=#[t,t] })
  (base:Nat) (e:TypeId) (i:TypeInfo) (z:Value) (size bytes:Nat) (h1:P.underlying t=some (.slice e)) (h2:P.info? e=some i) (h3:i.zero=some z) (h4:i.size=size) (h5:i.bytes=bytes) (h6:z.cells.size=size) (h7:0 < size)
  (v:Value) (k:Nat) (xs:List Value) (hs:a.eval s=v) (hown:w.ownsRow base e size v k xs) (ad:Addr) (m c:Nat) (news:List Value) (hx:a.eval x=.slice (some ad) m c) (hn:news.length=m * size)
  (hc:∀ j u,news[j]?=some u→w.cell? (ad.add j)=some u) (h1c:∀ u ∈ news,u.oneCell'=true) (b1:k+m≤maxLen) (b2:(k+m) * bytes≤140737488355328) (b3:base≤w.heap.size)
  (hK:∀ v' w',w'.ownsRow base e size v' (k+m) (xs ++ news)→w.grownBy w' v.ownBlock→wpAnyIn F n P md ops Q fuel (listed.setIfInBounds j true) (a.put o.dst v') w') :
  wpAnyIn F n P md ops Q (fuel+1) listed a w:=by
 refine ready1 hr ho (fun K hK'=>?_)
 obtain ⟨v',w',hrun,r1,r2,_⟩:=run_append_own (P:=P) w base t o.type e i z size bytes h1 h2 h3 h4 h5 h6 h7 v k xs hown ad m c news hn hc h1c b1 b2 b3
 rw [if_pos (by simp [Region.wanted,hg])]
 unfold Oper.wpIn
 refine ⟨?_,?_⟩
 ·simp [Oper.about,hop,resolve,Target.leads,Sem.run_pure]
 ·rw [Oper.semAt_plain F _ _ (by rw [hop];intro c hc';cases hc')]
  simp [execOp,hop,resolve,invoke,builtin,hs,hx,hrun,Result.andThen]
  exact hK' _ _ (hK v' w' r1 r2)
end Go.Proofs.YtcbibdhlkdcmiafGreat
