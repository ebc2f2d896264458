/-
  PROVED HERE: what slices.Insert answers of cells that are owned (or of none), a cell, and the place behind the last one. Also: the builtin copy over elements of any width, into a block of one's own. Also: what slices.Insert answers of cells that are owned, a cell, and a place ahead of the last one, where there is room. Also: what slices.Insert answers of cells that are owned, a cell, and a place ahead of the last one, where there is no room. Also: what the program's cellsIn and hasCell answer: how many cells a row has, and whether there is a cell at a place; nothing that was in memory is turned.
-/
import Derived.Test.YtggmjiddadjilaoD8
import Derived.Test.YtggmjiddadjilaoD11
import Derived.Test.YtggmjiddadjilaoD1
import Derived.Test.YtggmjiddadjilaoD6
import Derived.Maps.AppendAt
import Derived.Laws.CopyRow
import Derived.Laws.Append
import Derived.Lib.Overlaps
import Derived.Shelf.Spec.SlicesInsert
import Derived.Shelf.Spec.SlicesInsertGrow
import Derived.Deep.Cut
namespace Go.Proofs.Ytggmjiddadjilao
open Go.RowKit

set_option maxRecDepth 100000 in
set_option maxHeartbeats 2000000 in
theorem insertCell_end (a0:Option Addr) (c n vb:Nat) (xs V:List Value) (hVl:V.length=11) (hV1:∀ u ∈ V,u.oneCell'=true) (B:Nat) (w:World) (h:w.ownsRow B 62 11 (.slice a0 n c) n xs) (hn:n≤8) (hB:B≤w.heap.size) (hv:w.heap[vb]?=some (.cells V.toArray 62)) :
  Calls Try.prog 58 #[.slice a0 n c,.int .i64 n,.slice (some ⟨vb,0,none⟩) 1 1] w fun e w'=>∃ a9 c9,e=.returned (.slice a9 (n+1) c9)∧w'.ownsRow B 62 11 (.slice a9 (n+1) c9) (n+1) (xs ++ V)∧w.grownBy w' (Value.slice a0 n c).ownBlock∧((Value.slice a9 (n+1) c9).ownBlock=(Value.slice a0 n c).ownBlock∨(Value.slice a9 (n+1) c9).ownBlock=some w.heap.size):=by
 obtain ⟨i0,hi0,hz0,hz1,hz2⟩:=info_parts infoCelln
 have HO:=Hid.intro h
 have HV:=Hid.intro hv
 rcases h.2 with ⟨e,hn0⟩ | ⟨g,cap',cur,e,hg,hc,a1,a2,a3,a4⟩
 ·simp only [Value.slice.injEq] at e
  obtain ⟨rfl,rfl,rfl⟩:=e
  clear h hv hn0
  go_enter Try.func58,Try.ntmps58
  go_wp2_with (at_builtin;refine wpList_append_own_at _ rfl _ _ 86 rfl B 62 i0 _ 11 96 Try.underlying86 hi0 hz0 hz1 hz2 rfl (by decide) _ _ _ rfl HO.out ⟨vb,0,none⟩ 1 1 V rfl hVl (news_at HV.out) hV1 (by unfold maxLen;omega) (by omega) hB ?_;intro v' w5 hown' hgrow' _ hat';obtain ⟨a9,c9,rfl,_⟩:=row_form hown')
  all_goals
   go_ret
   exact ⟨a9,c9,rfl,hown',hgrow',hat'⟩
 ·simp only [Value.slice.injEq] at e
  obtain ⟨rfl,_,rfl⟩:=e
  unfold maxLen at a2
  clear h hv a3 a4 hc hg
  go_enter Try.func58,Try.ntmps58
  go_wp2_with (at_builtin;refine wpList_append_own_at _ rfl _ _ 86 rfl B 62 i0 _ 11 96 Try.underlying86 hi0 hz0 hz1 hz2 rfl (by decide) _ _ _ rfl HO.out ⟨vb,0,none⟩ 1 1 V rfl hVl (news_at HV.out) hV1 (by unfold maxLen;omega) (by omega) hB ?_;intro v' w5 hown' hgrow' _ hat';obtain ⟨a9,c9,rfl,_⟩:=row_form hown')
  all_goals
   go_ret
   exact ⟨a9,c9,rfl,hown',hgrow',hat'⟩
end Go.Proofs.Ytggmjiddadjilao
namespace Go.Proofs.Ytggmjiddadjilao
open Go.RowKit

theorem run_copy_wide {P:Program} (w:World) (dT sT ty elem:TypeId) (sz g o dLen dCap:Nat) (a:Addr) (sLen sCap:Nat) (cur:Array Value) (t:TypeId) (cs:List Value)
  (hu:P.underlying dT=some (.slice elem)) (hs:(P.info? elem).map (·.size)=some sz)
  (hg:w.heap[g]?=some (.cells cur t)) (hn:cs.length=Nat.min sLen dLen * sz)
  (hsrc:∀ j v,cs[j]?=some v→w.cell? (a.add j)=some v) (hfit:o+cs.length≤cur.size) (h1:∀ v ∈ cs,v.oneCell'=true) :
  (Builtin.copy_ #[dT,sT] ty #[.slice (some ⟨g,o,none⟩) dLen dCap,.slice (some a) sLen sCap]).run P w =
   .ok (goInt (Nat.min sLen dLen)) (w.setRow g (cur.toList.take o ++ cs ++ cur.toList.drop (o+cs.length)).toArray):=by
 have hst:=run_storeCells_at P g o t cs 0 cur w hg (by simpa using hfit) h1
 cases hq:P.info? elem with
 | none=>simp [hq] at hs
 | some i =>
  have hi:i.size=sz:=by simpa [hq] using hs
  have hl:=run_firstCells_some (P:=P) w i.size (Nat.min sLen dLen) a sLen sCap cs (by rw [hi];exact hn) hsrc
  simp [Builtin.copy_,run_underlying hu,Builtin.lenOf,sizeOf,typeInfo,hq,hl,hst]
end Go.Proofs.Ytggmjiddadjilao
namespace Go.Proofs.Ytggmjiddadjilao
open Go.RowKit

theorem ins_cell {α:Type} (C xs:List α) (V:List α) (hVl:V.length=11) (i n c:Nat) (hx:C.take (n * 11)=xs) (hC:C.length=c * 11) (hi:i < n) (hc:n+1≤c) (A1:List α) (hA:A1=C.take ((i+1) * 11) ++ xs.drop (i * 11) ++ C.drop ((i+1) * 11+(xs.drop (i * 11)).length)) :
  (A1.take (i * 11) ++ V ++ A1.drop (i * 11+V.length)).take ((n+1) * 11)=xs.take (i * 11) ++ V ++ xs.drop (i * 11)∧(A1.take (i * 11) ++ V ++ A1.drop (i * 11+V.length)).length=c * 11∧A1.length=c * 11:=by
 have hxl:xs.length=n * 11:=by rw [← hx,List.length_take,hC];omega
 have e1:A1.take (i * 11)=xs.take (i * 11):=by
  rw [hA,List.append_assoc,List.take_append_of_le_length (by rw [List.length_take,hC];omega),List.take_take,← hx,List.take_take]
  congr 1
  omega
 have e2:A1.drop (i * 11+V.length)=xs.drop (i * 11) ++ C.drop ((i+1) * 11+(xs.drop (i * 11)).length):=by
  rw [hA,List.append_assoc]
  exact List.drop_left' (by rw [List.length_take,hC];rw [hVl];omega)
 have hl:A1.length=c * 11:=by
  rw [hA]
  simp only [List.length_append,List.length_take,List.length_drop,hC,hxl]
  omega
 refine ⟨?_,?_,hl⟩
 ·rw [e1,e2,← List.append_assoc]
  exact List.take_left' (by simp only [List.length_append,List.length_take,List.length_drop,hxl,hVl];omega)
 ·rw [e1,e2]
  simp only [List.length_append,List.length_take,List.length_drop,hxl,hC,hVl]
  omega
set_option maxRecDepth 100000 in
set_option maxHeartbeats 4000000 in
theorem insertCell_room (g c n i vb:Nat) (xs V:List Value) (hVl:V.length=11) (hV1:∀ u ∈ V,u.oneCell'=true) (B:Nat) (w:World) (h:w.ownsRow B 62 11 (.slice (some ⟨g,0,none⟩) n c) n xs) (h1x:∀ u ∈ xs,u.oneCell'=true) (hi:i < n) (hroom:n+1≤c) (hvg:vb ≠ g) (hv:w.heap[vb]?=some (.cells V.toArray 62)) :
  Calls Try.prog 58 #[.slice (some ⟨g,0,none⟩) n c,.int .i64 i,.slice (some ⟨vb,0,none⟩) 1 1] w fun e w'=>e=.returned (.slice (some ⟨g,0,none⟩) (n+1) c)∧w'.ownsRow B 62 11 (.slice (some ⟨g,0,none⟩) (n+1) c) (n+1) (xs.take (i * 11) ++ V ++ xs.drop (i * 11))∧w.grownBy w' (some g):=by
 obtain ⟨i0,hi0,hz0,hz1,hz2⟩:=info_parts infoCelln
 rcases h.2 with ⟨e,_⟩ | ⟨g',cap',cur,e,hg,hc,a1,a2,a3,a4⟩
 ·simp at e
 simp only [Value.slice.injEq,Option.some.injEq,Addr.mk.injEq,and_true] at e
 obtain ⟨rfl,_,rfl⟩:=e
 unfold maxLen at a2
 have hxl:xs.length=n * 11:=h.1
 have hsz:(Try.prog.info? 62).map (·.size)=some 11:=by rw [hi0];simp [hz1]
 have hzs:∀ w,(Go.sizeOf 62).run Try.prog w=.ok 11 w:=fun w=>by simp [Go.sizeOf,typeInfo,hi0,hz1]
 have hov:∀ (W:World),W.heap[g]?=some (.cells cur 62)→W.heap[vb]?=some (.cells V.toArray 62)→∀ o lb cb,(callFunc 88 #[.slice (some ⟨vb,0,none⟩) 1 1,.slice (some ⟨g,o,none⟩) lb cb]).run Try.prog W=.ok (.value (.bool false)) W:=fun W hW1 hW2 o lb cb=>by
  rw [run_callFunc_extern Try.func88 (by kernel_rfl) (by kernel_rfl) (by kernel_rfl) (e:=Extern.SlicesOverlaps.overlaps #[86,86] #[4]) (by kernel_rfl),
   Lib.run_overlaps_apart W 86 4 62 Try.underlying86 11 hzs ⟨vb,0,none⟩ ⟨g,o,none⟩ 1 1 lb cb hvg 62 62 11 (c * 11) (by simp [World.shape?,hW2,hVl]) (by simp [World.shape?,hW1,a3]) (by omega) (freeB hW2) (freeB hW2)]
  rfl
 obtain ⟨L1,hL1⟩:∃ L1,L1=cur.toList.take ((i+1) * 11) ++ xs.drop (i * 11) ++ cur.toList.drop ((i+1) * 11+(xs.drop (i * 11)).length):=⟨_,rfl⟩
 have hCl:cur.toList.length=c * 11:=by rw [Array.length_toList];exact a3
 obtain ⟨hT,hLn,hL1n⟩:=ins_cell cur.toList xs V hVl i n c a4 hCl hi hroom L1 hL1
 have hdl:(xs.drop (i * 11)).length=(n - i) * 11:=by rw [List.length_drop,hxl];omega
 have hcp1:∀ ty dc sc,(Builtin.copy_ #[86,86] ty #[.slice (some ⟨g,(i+1) * 11,none⟩) (n - i) dc,.slice (some ⟨g,i * 11,none⟩) (n+1 - i) sc]).run Try.prog w.drew=.ok (goInt (Nat.min (n+1 - i) (n - i))) (w.drew.setRow g L1.toArray):=fun ty dc sc=>by
  rw [hL1]
  exact run_copy_wide w.drew _ _ ty 62 11 g ((i+1) * 11) (n - i) dc ⟨g,i * 11,none⟩ (n+1 - i) sc cur 62 (xs.drop (i * 11)) Try.underlying86 hsz hc (by rw [hdl];simp only [Nat.min_def];split <;> omega)
   (fun j v hj=>by
    rw [Addr.add_lit,World.cell?_drew,cellB hc]
    rw [List.getElem?_drop,← a4,List.getElem?_take] at hj
    split at hj
    ·rw [← Array.getElem?_toList];exact hj
    ·cases hj)
   (by rw [hdl,a3];omega) (fun v hv=>h1x v (List.mem_of_mem_drop hv))
 obtain ⟨W1,hW1⟩:∃ W1,W1=w.drew.setRow g L1.toArray:=⟨_,rfl⟩
 have hg1:W1.heap[g]?=some (.cells L1.toArray 62):=by rw [hW1];exact setRow_heap w.drew g cur _ _ _ hc
 have hv1:W1.heap[vb]?=some (.cells V.toArray 62):=by rw [hW1];exact (setRow_other w.drew g vb _ hvg).trans hv
 obtain ⟨A2,hA2⟩:∃ A2,A2=(L1.take (i * 11) ++ V ++ L1.drop (i * 11+V.length)).toArray:=⟨_,rfl⟩
 have hcp2:∀ (W:World),W.heap=W1.heap→∀ ty dc,(Builtin.copy_ #[86,86] ty #[.slice (some ⟨g,i * 11,none⟩) (n+1 - i) dc,.slice (some ⟨vb,0,none⟩) 1 1]).run Try.prog W=.ok (goInt (Nat.min 1 (n+1 - i))) (W.setRow g A2):=fun W hW ty dc=>by
  have hgW:W.heap[g]?=some (.cells L1.toArray 62):=by rw [hW];exact hg1
  have hvW:W.heap[vb]?=some (.cells V.toArray 62):=by rw [hW];exact hv1
  rw [hA2]
  exact run_copy_wide W _ _ ty 62 11 g (i * 11) (n+1 - i) dc ⟨vb,0,none⟩ 1 1 L1.toArray 62 V Try.underlying86 hsz hgW (by rw [hVl];simp only [Nat.min_def];split <;> omega) (news_at hvW) (by simp [hVl];omega) hV1
 have HF:Hid (∀ W:World,W.heap=W1.heap→W.os=w.os→W.tape=w.tape→W.output=w.output→(W.setRow g A2).ownsRow B 62 11 (.slice (some ⟨g,0,none⟩) (n+1) c) (n+1) (xs.take (i * 11) ++ V ++ xs.drop (i * 11))∧w.grownBy (W.setRow g A2) (some g)):=fun W hW ho ht hu=>by
  have hgW:W.heap[g]?=some (.cells L1.toArray 62):=by rw [hW];exact hg1
  rw [hA2]
  refine ⟨⟨by rw [← hT,List.length_take,hLn];omega,.inr ⟨g,c,_,rfl,hg,setRow_heap W g _ _ _ _ hgW,hroom,by unfold maxLen;exact a2,by rw [List.size_toArray];exact hLn,hT⟩⟩,⟨ho,ht,hu,?_,fun k hk hkg=>?_⟩⟩
  ·have:W.heap.size=w.heap.size:=by rw [hW,hW1];simp [World.setRow]
   simp [World.setRow,this]
  ·rw [setRow_other W g k _ (fun e=>hkg (by rw [e])),hW,hW1]
   exact setRow_other w.drew g k _ (fun e=>hkg (by rw [e]))
 have hz1':¬ ((i:Int)=(n:Int)):=by omega
 have hb2:¬ (c=i+1):=by omega
 have hb4:¬ (c=i):=by omega
 have hin:i≤n:=by omega
 have hb3:(i:Int)≤(n:Int)+1:=by omega
 have mixed:Try.prog.follows .mixedOrders=true:=by kernel_rfl
 have hw1:IntKind.i64.wrap ((i:Int)+1)=(i:Int)+1:=by rw [IntKind.wrap_i64];omega
 have hb1:(0:Int)≤(i:Int)+1:=by omega
 have htn:((i:Int)+1).toNat=i+1:=by omega
 have hb5:(i:Int)+1≤(n:Int)+1:=by omega
 have HO1:=hov w hc hv
 rw [← hW1] at hcp1
 have HOs:Hid (W1.os=w.os):=by show _=_;rw [hW1];rfl
 have HTp:Hid (W1.tape=w.tape):=by show _=_;rw [hW1];rfl
 have HOu:Hid (W1.output=w.output):=by show _=_;rw [hW1];rfl
 clear hA2 hL1 hT hLn hL1n hCl hdl hg1 hv1 hov hc hv a4 h h1x hW1 hzs
 go_enter Try.func58,Try.ntmps58
 go_wp2_with (simp only [HO1])
 go_region_law_o (refine step_copy_runI rfl _ _ 86 86 rfl _ _ (by simp [Act.eval,Act.put]) (by simp [Act.eval,Act.put]) (hcp1 _ _ _) ?_)
 go_wp2_with (at_builtin;refine wpList_copy_runI _ rfl _ _ 86 86 rfl _ _ rfl rfl (hcp2 _ rfl _ _) ?_)
 go_ret
 exact ⟨rfl,HF.out _ rfl HOs.out HTp.out HOu.out⟩
end Go.Proofs.Ytggmjiddadjilao
namespace Go.Proofs.Ytggmjiddadjilao
open Go.RowKit

theorem ins_cell2 {α:Type} (R xs:List α) (V:List α) (hVl:V.length=11) (i n G:Nat) (hx:R.take (i * 11)=xs.take (i * 11)) (hR:R.length=G * 11) (hxl:xs.length=n * 11) (hi:i < n) (hG:n+1≤G) (A1:List α) (hA:A1=R.take (i * 11) ++ V ++ R.drop (i * 11+V.length)) :
  (A1.take ((i+1) * 11) ++ xs.drop (i * 11) ++ A1.drop ((i+1) * 11+(xs.drop (i * 11)).length)).take ((n+1) * 11)=xs.take (i * 11) ++ V ++ xs.drop (i * 11)∧(A1.take ((i+1) * 11) ++ xs.drop (i * 11) ++ A1.drop ((i+1) * 11+(xs.drop (i * 11)).length)).length=G * 11∧A1.length=G * 11:=by
 have hl:A1.length=G * 11:=by
  rw [hA]
  simp only [List.length_append,List.length_take,List.length_drop,hR,hVl]
  omega
 have e1:A1.take ((i+1) * 11)=xs.take (i * 11) ++ V:=by
  rw [hA,hx]
  exact List.take_left' (by simp only [List.length_append,List.length_take,hxl,hVl];omega)
 refine ⟨?_,?_,hl⟩
 ·rw [e1]
  exact List.take_left' (by simp only [List.length_append,List.length_take,List.length_drop,hxl,hVl];omega)
 ·simp only [List.length_append,List.length_take,List.length_drop,hxl,hl]
  omega
set_option maxRecDepth 100000 in
set_option maxHeartbeats 4000000 in
theorem insertCell_grow (g c n i vb:Nat) (xs V:List Value) (hVl:V.length=11) (hV1:∀ u ∈ V,u.oneCell'=true) (B:Nat) (w:World) (h:w.ownsRow B 62 11 (.slice (some ⟨g,0,none⟩) n c) n xs) (h1x:∀ u ∈ xs,u.oneCell'=true) (hi:i < n) (hn8:n≤8) (hroom:c < n+1) (hB:B≤w.heap.size) (hv:w.heap[vb]?=some (.cells V.toArray 62)) :
  Calls Try.prog 58 #[.slice (some ⟨g,0,none⟩) n c,.int .i64 i,.slice (some ⟨vb,0,none⟩) 1 1] w fun e w'=>∃ a9 c9,e=.returned (.slice a9 (n+1) c9)∧w'.ownsRow B 62 11 (.slice a9 (n+1) c9) (n+1) (xs.take (i * 11) ++ V ++ xs.drop (i * 11))∧w.grownBy w' (some g)∧a9=some ⟨w.heap.size,0,none⟩:=by
 obtain ⟨i0,hi0,hz0,hz1,hz2⟩:=info_parts infoCelln
 rcases h.2 with ⟨e,_⟩ | ⟨g',cap',cur,e,hg,hc,a1,a2,a3,a4⟩
 ·simp at e
 simp only [Value.slice.injEq,Option.some.injEq,Addr.mk.injEq,and_true] at e
 obtain ⟨rfl,_,rfl⟩:=e
 unfold maxLen at a2
 have hxl:xs.length=n * 11:=h.1
 have hsz:(Try.prog.info? 62).map (·.size)=some 11:=by rw [hi0];simp [hz1]
 have hgl:g < w.heap.size:=(Array.getElem?_eq_some_iff.1 hc).1
 have hvl:vb < w.heap.size:=(Array.getElem?_eq_some_iff.1 hv).1
 have hcont:∀ j v,xs[j]?=some v→w.cell? ⟨g,j,none⟩=some v:=fun j v hj=>by
  rw [cellB hc]
  rw [← a4,List.getElem?_take] at hj
  split at hj
  ·rw [← Array.getElem?_toList];exact hj
  ·cases hj
 have hold:(Builtin.firstCells i0.size i (.slice (some ⟨g,0,none⟩) i c)).run Try.prog w.drew=.ok (xs.take (i * 11)).toArray w.drew:=by
  rw [hz1]
  exact run_firstCells_some w.drew 11 i ⟨g,0,none⟩ i c (xs.take (i * 11)) (by rw [List.length_take,hxl];omega) (fun j v hj=>by
   rw [Addr.add_lit,Nat.zero_add,World.cell?_drew]
   rw [List.getElem?_take] at hj
   split at hj
   ·exact hcont j v hj
   ·cases hj)
 have hkk:(n:Int)+1 - (i:Int)=((n+1 - i:Nat):Int):=by omega
 have hik:i+(n+1 - i)=n+1:=by omega
 obtain ⟨G,hG⟩:∃ G,G=grownCap w (n+1) c 62:=⟨_,rfl⟩
 have hGn:n+1≤G:=by rw [hG];exact grownCap_ge w _ _ _
 have hG63:G≤9223372036854775807:=by
  have:=grownCap_le_maxLen w (n+1) c 62 (by unfold maxLen;omega)
  rw [← hG] at this
  unfold maxLen at this
  omega
 obtain ⟨ROW,hROW⟩:∃ ROW:Array Value,ROW=(xs.take (i * 11)).toArray ++ Builtin.zeroCells (Value.agg #[.string ⟨#[]⟩,.int .i64 0,.int .i64 0,.int .i64 0,.int .i64 0,.int .i64 0,.int .i64 0,.int .i64 0,.int .i64 0,.int .i64 0,.int .i64 0]).cells (n+1 - i) ++ Builtin.zeroCells (Value.agg #[.string ⟨#[]⟩,.int .i64 0,.int .i64 0,.int .i64 0,.int .i64 0,.int .i64 0,.int .i64 0,.int .i64 0,.int .i64 0,.int .i64 0,.int .i64 0]).cells (G - (n+1)):=⟨_,rfl⟩
 have hrz:∀ ty,(Builtin.append_ #[86,3] ty #[.slice (some ⟨g,0,none⟩) i c,.int .i64 ((n:Int)+1 - (i:Int))]).run Try.prog w=.ok (.slice (some ⟨w.heap.size,0,none⟩) (n+1) G) (w.drew.alloc (.cells ROW 62)):=fun ty=>by
  have h:=Lib.run_append_grow_zeros w 86 3 ty 62 i0 _ .i64 .i64 Try.underlying86 Try.underlying3 hi0 hz0 (some ⟨g,0,none⟩) i c (xs.take (i * 11)) hold (n+1 - i) (by omega) (by omega) (by omega) (by omega) (by rw [hz2];omega) (by rw [hz2,hik];exact growslice_fits hroom (by omega))
  rw [hik] at h
  rw [hkk,hROW,hG]
  exact h
 have hRl:ROW.toList.length=G * 11:=by
  rw [hROW]
  simp [Builtin.zeroCells,Value.cells,hxl]
  omega
 have hRt:ROW.toList.take (i * 11)=xs.take (i * 11):=by
  rw [hROW]
  simp only [Array.toList_append,List.append_assoc]
  exact List.take_left' (by rw [List.length_take,hxl];omega)
 obtain ⟨L1,hL1⟩:∃ L1,L1=ROW.toList.take (i * 11) ++ V ++ ROW.toList.drop (i * 11+V.length):=⟨_,rfl⟩
 obtain ⟨hT,hLn,hL1n⟩:=ins_cell2 ROW.toList xs V hVl i n G hRt hRl hxl hi hGn L1 hL1
 obtain ⟨A2,hA2⟩:∃ A2,A2=(L1.take ((i+1) * 11) ++ xs.drop (i * 11) ++ L1.drop ((i+1) * 11+(xs.drop (i * 11)).length)).toArray:=⟨_,rfl⟩
 have hdl:(xs.drop (i * 11)).length=(n - i) * 11:=by rw [List.length_drop,hxl];omega
 have hcpA:∀ (W:World),W.heap[w.heap.size]?=some (.cells ROW 62)→W.heap[vb]?=some (.cells V.toArray 62)→∀ ty dc,(Builtin.copy_ #[86,86] ty #[.slice (some ⟨w.heap.size,i * 11,none⟩) (n+1 - i) dc,.slice (some ⟨vb,0,none⟩) 1 1]).run Try.prog W=.ok (goInt (Nat.min 1 (n+1 - i))) (W.setRow w.heap.size L1.toArray):=fun W hW hWv ty dc=>by
  rw [hL1]
  exact run_copy_wide W _ _ ty 62 11 w.heap.size (i * 11) (n+1 - i) dc ⟨vb,0,none⟩ 1 1 ROW 62 V Try.underlying86 hsz hW (by rw [hVl];simp only [Nat.min_def];split <;> omega) (news_at hWv) (by rw [← Array.length_toList,hRl];rw [hVl];omega) hV1
 have hcpB:∀ (W:World),W.heap[w.heap.size]?=some (.cells L1.toArray 62)→W.heap[g]?=some (.cells cur 62)→∀ ty dc sc,(Builtin.copy_ #[86,86] ty #[.slice (some ⟨w.heap.size,(i+1) * 11,none⟩) (n - i) dc,.slice (some ⟨g,i * 11,none⟩) (n - i) sc]).run Try.prog W=.ok (goInt (Nat.min (n - i) (n - i))) (W.setRow w.heap.size A2):=fun W hW hWg ty dc sc=>by
  rw [hA2]
  exact run_copy_wide W _ _ ty 62 11 w.heap.size ((i+1) * 11) (n - i) dc ⟨g,i * 11,none⟩ (n - i) sc L1.toArray 62 (xs.drop (i * 11)) Try.underlying86 hsz hW (by rw [hdl];simp only [Nat.min_def];split <;> omega)
   (fun j v hj=>by
    rw [Addr.add_lit,cellB hWg,← cellB (p:=i * 11+j) hc]
    rw [List.getElem?_drop] at hj
    exact hcont _ v hj)
   (by rw [hdl,List.size_toArray,hL1n];omega) (fun v hv=>h1x v (List.mem_of_mem_drop hv))
 have HF:Hid (∀ X:World,X.heap.size=w.heap.size+1→X.heap[w.heap.size]?=some (.cells L1.toArray 62)→(∀ k,k < w.heap.size→X.heap[k]?=w.heap[k]?)→X.os=w.os→X.tape=w.tape→X.output=w.output→(X.setRow w.heap.size A2).ownsRow B 62 11 (.slice (some ⟨w.heap.size,0,none⟩) (n+1) G) (n+1) (xs.take (i * 11) ++ V ++ xs.drop (i * 11))∧w.grownBy (X.setRow w.heap.size A2) (some g)):=fun X hXs hX hXo ho ht hu=>by
  rw [hA2]
  refine ⟨⟨by rw [← hT,List.length_take,hLn];omega,.inr ⟨w.heap.size,G,_,rfl,hB,setRow_heap X _ _ _ _ _ hX,hGn,by unfold maxLen;exact hG63,by rw [List.size_toArray];exact hLn,hT⟩⟩,⟨ho,ht,hu,?_,fun k hk _=>?_⟩⟩
  ·simp [World.setRow,hXs]
  ·rw [setRow_other X w.heap.size k _ (by omega)]
   exact hXo k hk
 have hW1N:(w.alloc (.cells ROW 62)).heap[w.heap.size]?=some (.cells ROW 62):=newestB _ _
 have hW1k:∀ k,k < w.heap.size→(w.alloc (.cells ROW 62)).heap[k]?=w.heap[k]?:=fun k hk=>Below.heap_alloc w _ k hk
 have hW2N:((w.alloc (.cells ROW 62)).drew.setRow w.heap.size L1.toArray).heap[w.heap.size]?=some (.cells L1.toArray 62):=setRow_heap _ _ _ _ _ _ hW1N
 have hW2k:∀ k,k < w.heap.size→((w.alloc (.cells ROW 62)).drew.setRow w.heap.size L1.toArray).heap[k]?=w.heap[k]?:=fun k hk=>(setRow_other _ w.heap.size k _ (by omega)).trans (hW1k k hk)
 have HW1v:=Hid.intro ((hW1k vb hvl).trans hv)
 have HW2g:=Hid.intro ((hW2k g hgl).trans hc)
 have HW1N:=Hid.intro hW1N
 have HW2N:=Hid.intro hW2N
 have HW2k:=Hid.intro hW2k
 have KA:=hcpA ((w.alloc (.cells ROW 62)).drew) HW1N.out HW1v.out
 have KB:=hcpB (((w.alloc (.cells ROW 62)).drew.setRow w.heap.size L1.toArray).drew) HW2N.out HW2g.out
 have mixed:Try.prog.follows .mixedOrders=true:=by kernel_rfl
 have hw1:IntKind.i64.wrap ((i:Int)+1)=(i:Int)+1:=by rw [IntKind.wrap_i64];omega
 have hb1:(0:Int)≤(i:Int)+1:=by omega
 have htn:((i:Int)+1).toNat=i+1:=by omega
 have hb5:(i:Int)+1≤(n:Int)+1:=by omega
 have hz1':¬ ((i:Int)=(n:Int)):=by omega
 have hz3:(c:Int) < (n:Int)+1:=by omega
 have hGi:¬ (G=i):=by omega
 have hGim:¬ (G=i+1):=by omega
 have hci:¬ (c=i):=by omega
 have hin:i≤n:=by omega
 have hb3:(i:Int)≤(n:Int):=by omega
 clear hcpA hcpB hW1N hW1k hW2N hW2k hL1 hT hLn hL1n hdl hA2 hRt hRl hROW hG hik hkk hold hcont hc hv a4 h h1x
 go_enter Try.func58,Try.ntmps58
 go_wp2_with (first
  | (at_builtin;refine Lib.wpList_append_run _ rfl _ _ _ _ rfl _ _ rfl rfl _ _ (hrz _) ?_)
  | simp only [KA])
 go_region_law_o (refine step_copy_runI rfl _ _ 86 86 rfl _ _ (by simp [Act.eval,Act.put]) (by simp [Act.eval,Act.put]) (KB _ _ _) ?_)
 go_wp2
 go_ret
 exact ⟨_,_,rfl,and_assoc.1 ⟨HF.out _ (by simp [World.setRow]) HW2N.out HW2k.out rfl rfl rfl,rfl⟩⟩
/-- slices.Insert of one cell, wherever it comes -/
theorem insertCell (a0:Option Addr) (c n i vb:Nat) (xs V:List Value) (hVl:V.length=11) (hV1:∀ u ∈ V,u.oneCell'=true) (B:Nat) (w:World) (h:w.ownsRow B 62 11 (.slice a0 n c) n xs) (h1x:∀ u ∈ xs,u.oneCell'=true) (hi:i≤n) (hn8:n≤8) (hB:B≤w.heap.size) (hvg:(Value.slice a0 n c).ownBlock ≠ some vb) (hv:w.heap[vb]?=some (.cells V.toArray 62)) :
  Calls Try.prog 58 #[.slice a0 n c,.int .i64 i,.slice (some ⟨vb,0,none⟩) 1 1] w fun e w'=>∃ a9 c9,e=.returned (.slice a9 (n+1) c9)∧w'.ownsRow B 62 11 (.slice a9 (n+1) c9) (n+1) (xs.take (i * 11) ++ V ++ xs.drop (i * 11))∧w.grownBy w' (Value.slice a0 n c).ownBlock∧((Value.slice a9 (n+1) c9).ownBlock=(Value.slice a0 n c).ownBlock∨(Value.slice a9 (n+1) c9).ownBlock=some w.heap.size):=by
 have hxl:xs.length=n * 11:=h.1
 rcases Nat.lt_or_eq_of_le hi with hi | rfl
 ·rcases h.2 with ⟨_,e⟩ | ⟨g,cap',cur,e,_⟩
  ·omega
  simp only [Value.slice.injEq] at e
  obtain ⟨rfl,_,_⟩:=e
  rcases Nat.lt_or_ge c (n+1) with hc | hc
  ·exact (insertCell_grow g c n i vb xs V hVl hV1 B w h h1x hi hn8 hc hB hv).mono (fun e w' ⟨a9,c9,h1,h2,h3,h4⟩=>⟨a9,c9,h1,h2,h3,.inr (by rw [h4];rfl)⟩)
  ·exact (insertCell_room g c n i vb xs V hVl hV1 B w h h1x hi hc (fun e=>hvg (by rw [e];rfl)) hv).mono (fun e w' ⟨h1,h2,h3⟩=>⟨_,_,h1,h2,h3,.inl rfl⟩)
 ·have e1:xs.take (i * 11)=xs:=List.take_of_length_le (by omega)
  have e2:xs.drop (i * 11)=[]:=List.drop_eq_nil_of_le (by omega)
  rw [e1,e2,List.append_nil]
  exact insertCell_end a0 c i vb xs V hVl hV1 B w h hn8 hB hv
end Go.Proofs.Ytggmjiddadjilao
namespace Go.Proofs.Ytggmjiddadjilao
open Go.RowKit

set_option maxRecDepth 100000 in
set_option maxHeartbeats 2000000 in
theorem implCellsIn (ac ar:Option Addr) (cc cr:Nat) (t:T) (row:Int) (hrow:-9223372036854775808≤row∧row≤9223372036854775807) (w:World) {z:Nat} (hr:RowsAt w z (.slice ar t.rows.length cr) t.rows) :
  Calls Try.prog 53 #[.agg #[.slice ac t.cols.length cc,.int .i64 t.head,.int .i64 t.foot,.slice ar t.rows.length cr,.int .i64 t.gap],.int .i64 row] w fun e w'=>e=.returned (.int .i64 (cellsInV t row))∧Below w.heap.size w w':=by
 obtain ⟨_,_,_,hlen⟩:=At.form hr
 unfold maxLen at hlen
 have K0:=k_alloc (Below.refl w.heap.size w) (.cells #[.slice ac t.cols.length cc,.int .i64 t.head,.int .i64 t.foot,.slice ar t.rows.length cr,.int .i64 t.gap] 56)
 have HK:=Hid.intro K0
 have HR:=Hid.intro (hr.kept K0)
 have HX:=Hid.intro (newestB w (.cells #[.slice ac t.cols.length cc,.int .i64 t.head,.int .i64 t.foot,.slice ar t.rows.length cr,.int .i64 t.gap] 56))
 have HV:Hid (cellsInV t row=if inB row 0 ((t.rows.length:Int) - 1)=true then ((t.rows.getD row.toNat dR).cells.length:Int) else -1):=rfl
 clear hr K0
 have HI:=Hid.intro (fun W=>within_any row 0 ((t.rows.length:Int) - 1) W)
 by_cases hin:inB row 0 ((t.rows.length:Int) - 1)=true
 ·have hv:=HV.out
  rw [if_pos hin] at hv
  rw [hin] at HI
  obtain ⟨r,rfl⟩:∃ r:Nat,row=r:=⟨row.toNat,by simp only [inB,decide_eq_true_eq] at hin;omega⟩
  have hrl:r < t.rows.length:=by simp only [inB,decide_eq_true_eq] at hin;omega
  rw [Int.toNat_natCast] at hv
  obtain ⟨b,off,cap',e',hc1,hc2,hbl,u,hx0,hx1,hx⟩:=At.get HR.out hrl
  simp only [Value.slice.injEq,true_and] at e'
  obtain ⟨rfl,rfl⟩:=e'
  obtain ⟨au,cu,rfl,hul⟩:=At.form hx
  have Hv:=Hid.intro hv
  generalize (t.rows.getD r dR).cells.length=m at hx0 Hv hul
  unfold maxLen at hc2 hul
  clear hv HV hin hx hx1
  go_enter Try.func53,Try.ntmps53
  go_upto_region 1 with fail
  generalize w.alloc (.cells #[.slice ac t.cols.length cc,.int .i64 t.head,.int .i64 t.foot,.slice (some ⟨b,off,none⟩) t.rows.length cr,.int .i64 t.gap] 56)=W0 at HK HR HX hx0 hbl ⊢
  have z3:=cellB (p:=3) HX.out
  go_wp2_with fail
  refine (HI.out _).mono ?_
  rintro e w1 ⟨rfl,e1⟩
  subst e1
  go_wp2
  go_ret
  exact ⟨by rw [Hv.out];rfl,HK.out⟩
 ·have hv:=HV.out
  rw [if_neg hin] at hv
  rw [Bool.eq_false_iff.2 hin] at HI
  have Hv:=Hid.intro hv
  clear hv HV hin
  go_enter Try.func53,Try.ntmps53
  go_upto_region 1 with fail
  generalize w.alloc (.cells #[.slice ac t.cols.length cc,.int .i64 t.head,.int .i64 t.foot,.slice ar t.rows.length cr,.int .i64 t.gap] 56)=W0 at HK HR HX ⊢
  have z3:=cellB (p:=3) HX.out
  go_wp2_with fail
  refine (HI.out _).mono ?_
  rintro e w1 ⟨rfl,e1⟩
  subst e1
  go_wp2
  go_ret
  exact ⟨by rw [Hv.out];rfl,HK.out⟩

end Go.Proofs.Ytggmjiddadjilao
