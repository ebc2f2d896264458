/-
  PROVED HERE: what the closure of the program's EdtPut does: it puts one cell into a row of the copy, and turns nothing else that was in memory. Also: what the program's behind answers with the closure of EdtPut: what the copy is behind the closure, or the copy as it was; nothing else is turned.
-/
import Derived.Test.YtggmjiddadjilaoD6
import Derived.Test.YtggmjiddadjilaoD12
import Derived.Test.YtggmjiddadjilaoD13
namespace Go.Proofs.Ytggmjiddadjilao
open Go.RowKit

theorem elevenO {w:World} {g:Nat} {x:C} {t:TypeId} (h:w.heap[g]?=some (.cells (cellVs x).toArray t)) :
  w.cell? ⟨g,0,none⟩=some (.string x.s)∧w.cell? ⟨g,1,none⟩=some (.int .i64 x.c)∧w.cell? ⟨g,2,none⟩=some (.int .i64 x.r)∧w.cell? ⟨g,3,none⟩=some (.int .i64 x.a1)∧w.cell? ⟨g,4,none⟩=some (.int .i64 x.b1)∧w.cell? ⟨g,5,none⟩=some (.int .i64 x.a2)∧w.cell? ⟨g,6,none⟩=some (.int .i64 x.b2)∧w.cell? ⟨g,7,none⟩=some (.int .i64 x.a3)∧w.cell? ⟨g,8,none⟩=some (.int .i64 x.b3)∧w.cell? ⟨g,9,none⟩=some (.int .i64 x.a4)∧w.cell? ⟨g,10,none⟩=some (.int .i64 x.b4) :=
 ⟨Joins.cell_of_block h 0,Joins.cell_of_block h 1,Joins.cell_of_block h 2,Joins.cell_of_block h 3,Joins.cell_of_block h 4,Joins.cell_of_block h 5,Joins.cell_of_block h 6,Joins.cell_of_block h 7,Joins.cell_of_block h 8,Joins.cell_of_block h 9,Joins.cell_of_block h 10⟩
theorem one_flat (cs:List C):∀ u ∈ cs.flatMap cellVs,u.oneCell'=true:=by
 intro u hu
 obtain ⟨q,_,hm⟩:=List.mem_flatMap.1 hu
 simp only [cellVs,List.mem_cons,List.not_mem_nil,or_false] at hm
 rcases hm with rfl | rfl | rfl | rfl | rfl | rfl | rfl | rfl | rfl | rfl | rfl <;> rfl
/-- slices.Insert at the cells of a row -/
theorem insertInto (a0:Option Addr) (cu m a B:Nat) (cs:List C) (x:C) (hcs:cs.length=m) (ha:a≤m) (hm:m≤8) (w:World) (hO:OwnC w B (.slice a0 m cu) cs) (hBw:B≤w.heap.size) (W:World) (hW:Below w.heap.size w W) (vb:Nat) (hvl:w.heap.size≤vb) (hvb:W.heap[vb]?=some (.cells (cellVs x).toArray 62)) :
  Calls Try.prog 58 #[.slice a0 m cu,.int .i64 a,.slice (some ⟨vb,0,none⟩) 1 1] W fun e w'=>∃ a9 c9,e=.returned (.slice a9 (m+1) c9)∧OwnC w' B (.slice a9 (m+1) c9) (insC cs a x)∧W.grownBy w' (Value.slice a0 m cu).ownBlock∧((Value.slice a9 (m+1) c9).ownBlock=(Value.slice a0 m cu).ownBlock∨∀ b,(Value.slice a9 (m+1) c9).ownBlock=some b→w.heap.size≤b):=by
 subst hcs
 have hO':=row_kept9 hO hW
 refine (insertCell a0 cu cs.length a vb (cs.flatMap cellVs) (cellVs x) rfl (fun u hu=>one_flat [x] u (by simpa using hu)) B W hO' (one_flat cs) ha hm (Nat.le_trans hBw hW.size) (fun e=>?_) hvb).mono ?_
 ·have:=(row_lt hO e).2
  omega
 ·rintro e w' ⟨a9,c9,rfl,h1,h2,h3⟩
  refine ⟨a9,c9,rfl,?_,h2,?_⟩
  ·unfold OwnC
   rw [insC_len,flat_insC]
   exact h1
  ·rcases h3 with h3 | h3
   ·exact .inl h3
   ·refine .inr (fun b hb=>?_)
    rw [h3] at hb
    have:=hW.size
    have:=Option.some.inj hb
    omega
structure PtJ (xb g r a n c2 m cu B:Nat) (a0:Option Addr) (cs:List C) (x:C) (W3:World) (L:Nat→Bool) (W:World) (v4 v5 v6 v7 v8 v9 v10 v11 v12 v13 v14 v15 v16 v17 v18:Value):Prop where
 f0:L 0=true→v4=.pointer (some ⟨xb,3,none⟩)
 f1:L 1=true→v5=.slice (some ⟨g,0,none⟩) n c2
 f2:L 2=true→v6=.int .i64 r
 f3:L 3=true→v7=.pointer (some ⟨xb,3,none⟩)
 f4:L 4=true→v8=.slice (some ⟨g,0,none⟩) n c2
 f5:L 5=true→v9=.int .i64 r
 f6:L 6=true→v10=.pointer (some ⟨g,r * 2,none⟩)
 f7:L 7=true→v11=.pointer (some ⟨g,r * 2,none⟩)
 f8:L 8=true→v12=Value.slice a0 m cu
 f9:L 9=true→v13=.int .i64 a
 f10:L 10=true→v14=.agg #[.string x.s,.int .i64 x.c,.int .i64 x.r,.int .i64 x.a1,.int .i64 x.b1,.int .i64 x.a2,.int .i64 x.b2,.int .i64 x.a3,.int .i64 x.b3,.int .i64 x.a4,.int .i64 x.b4]
 f11:L 11=true→L 12=false→∃ vb,v15=.slice (some ⟨vb,0,none⟩) 1 1∧W.heap[vb]?=some (.cells (cellVs x).toArray 62)∧W3.heap.size≤vb
 f12:L 12=true→L 15=false→∃ a9 c9,v16=.slice a9 (m+1) c9∧OwnC W B v16 (insC cs a x)∧(v16.ownBlock=(Value.slice a0 m cu).ownBlock∨∀ b,v16.ownBlock=some b→W3.heap.size≤b)
 f13:L 13=true→v17=.pointer (some ⟨g,r * 2,none⟩)
 f14:L 14=true→v18=.pointer (some ⟨g,r * 2,none⟩)
 f15:L 15=true→∃ a9 c9 W9,W3.grownBy W9 (Value.slice a0 m cu).ownBlock∧OwnC W9 B (.slice a9 (m+1) c9) (insC cs a x)∧((Value.slice a9 (m+1) c9).ownBlock=(Value.slice a0 m cu).ownBlock∨∀ b,(Value.slice a9 (m+1) c9).ownBlock=some b→W3.heap.size≤b)∧W=W9.setCell ⟨g,r * 2,none⟩ (.slice a9 (m+1) c9)
 b:L 12=false→Below W3.heap.size W3 W
 gr:L 15=false→W3.grownBy W (Value.slice a0 m cu).ownBlock
set_option maxRecDepth 100000 in
set_option maxHeartbeats 4000000 in
theorem closPut (xb rb ab cb g r a n c2 m cu B:Nat) (a0 a1:Option Addr) (cl c1:Nat) (hd ft gp:Value) (cs:List C) (x:C) (arr:Array Value) (w:World)
  (hx:w.heap[xb]?=some (.cells #[.slice a1 cl c1,hd,ft,.slice (some ⟨g,0,none⟩) n c2,gp] 56)) (hrb:w.heap[rb]?=some (.cells #[.int .i64 (r:Int)] 3)) (hab:w.heap[ab]?=some (.cells #[.int .i64 (a:Int)] 3)) (hcb:w.heap[cb]?=some (.cells (cellVs x).toArray 62))
  (hg:w.heap[g]?=some (.cells arr 88)) (hr:r < n) (hq:arr[r * 2]?=some (.slice a0 m cu)) (hcs:cs.length=m) (ha:a≤m) (hm:m≤8) (hO:OwnC w B (.slice a0 m cu) cs) (hBw:B≤w.heap.size) (hch:some cb ≠ (Value.slice a0 m cu).ownBlock) :
  Calls Try.prog 57 #[.pointer (some ⟨xb,0,none⟩),.pointer (some ⟨rb,0,none⟩),.pointer (some ⟨ab,0,none⟩),.pointer (some ⟨cb,0,none⟩)] w fun e w'=>e=.returned (.tuple #[])∧∃ a9 c9 W9,w.grownBy W9 (Value.slice a0 m cu).ownBlock∧OwnC W9 B (.slice a9 (m+1) c9) (insC cs a x)∧((Value.slice a9 (m+1) c9).ownBlock=(Value.slice a0 m cu).ownBlock∨∀ b,(Value.slice a9 (m+1) c9).ownBlock=some b→w.heap.size≤b)∧w'=W9.setCell ⟨g,r * 2,none⟩ (.slice a9 (m+1) c9):=by
 have hmx:Try.prog.follows .mixedOrders=true:=by kernel_rfl
 have hxh:some xb ≠ (Value.slice a0 m cu).ownBlock:=fun e=>(row_notM hO hx (by decide)) e.symm
 have hrh:some rb ≠ (Value.slice a0 m cu).ownBlock:=fun e=>(row_notM hO hrb (by decide)) e.symm
 have hah:some ab ≠ (Value.slice a0 m cu).ownBlock:=fun e=>(row_notM hO hab (by decide)) e.symm
 have hgh:some g ≠ (Value.slice a0 m cu).ownBlock:=fun e=>(row_notM hO hg (by decide)) e.symm
 have HX:=Hid.intro hx
 have HRb:=Hid.intro hrb
 have HAb:=Hid.intro hab
 have HCb:=Hid.intro hcb
 have HG:=Hid.intro hg
 have HQ:=Hid.intro hq
 have KD:=Hid.intro (insertInto a0 cu m a B cs x hcs ha hm w hO hBw)
 clear hx hrb hab hcb hg hq hO hcs
 go_enter Try.func57,Try.ntmps57
 go_upto_region 0 with fail
 refine wp_region_inv2 (fun L act W=>∃ v4 v5 v6 v7 v8 v9 v10 v11 v12 v13 v14 v15 v16 v17 v18:Value,act=⟨#[.pointer (some ⟨xb,0,none⟩),.pointer (some ⟨rb,0,none⟩),.pointer (some ⟨ab,0,none⟩),.pointer (some ⟨cb,0,none⟩),v4,v5,v6,v7,v8,v9,v10,v11,v12,v13,v14,v15,v16,v17,v18],[]⟩∧PtJ xb g r a n c2 m cu B a0 cs x w L W v4 v5 v6 v7 v8 v9 v10 v11 v12 v13 v14 v15 v16 v17 v18) hmx (by kernel_rfl) ?hs ?hd ?h0
 case h0=>exact ⟨_,_,_,_,_,_,_,_,_,_,_,_,_,_,_,rfl,⟨(fun h=>by cases h),(fun h=>by cases h),(fun h=>by cases h),(fun h=>by cases h),(fun h=>by cases h),(fun h=>by cases h),(fun h=>by cases h),(fun h=>by cases h),(fun h=>by cases h),(fun h=>by cases h),(fun h=>by cases h),(fun h=>by cases h),(fun h=>by cases h),(fun h=>by cases h),(fun h=>by cases h),(fun h=>by cases h),(fun _=>k_drew (Below.refl _ _)),(fun _=>grown_below (k_drew (Below.refl _ _)))⟩⟩
 case hd =>
  intro L act W hJ hall
  obtain ⟨v4,v5,v6,v7,v8,v9,v10,v11,v12,v13,v14,v15,v16,v17,v18,ha,J⟩:=hJ
  subst ha
  obtain ⟨a9,c9,W9,hG9,hC9,hat,rfl⟩:=J.f15 (hall 15 (by decide))
  clear J hall
  go_wp2
  go_end0
  exact ⟨rfl,a9,c9,W9,hG9,hC9,hat,rfl⟩
 case hs =>
  intro L act W i o hJ hcl ho hLi haft K hK
  obtain ⟨v4,v5,v6,v7,v8,v9,v10,v11,v12,v13,v14,v15,v16,v17,v18,ha,J⟩:=hJ
  subst ha
  have hi':i < 16:=by
   have:=(Array.getElem?_eq_some_iff.1 ho).1
   simpa using this
  rcases (by omega:i=0∨i=1∨i=2∨i=3∨i=4∨i=5∨i=6∨i=7∨i=8∨i=9∨i=10∨i=11∨i=12∨i=13∨i=14∨i=15) with rfl | rfl | rfl | rfl | rfl | rfl | rfl | rfl | rfl | rfl | rfl | rfl | rfl | rfl | rfl | rfl
  all_goals
   simp only [List.getElem?_toArray,List.getElem?_cons_zero,List.getElem?_cons_succ,Option.some.injEq] at ho
   subst ho
   clear hi'
  ·skip
   go_simp
   exact hK _ _ ⟨_,_,_,_,_,_,_,_,_,_,_,_,_,_,_,rfl,⟨(fun _=>rfl),(fun h=>absurd (((hcl 1 0 (by kernel_rfl) hLi)).symm.trans (un h)) (by simp)),(fun h=>J.f2 (un h)),(fun h=>J.f3 (un h)),(fun h=>J.f4 (un h)),(fun h=>J.f5 (un h)),(fun h=>J.f6 (un h)),(fun h=>J.f7 (un h)),(fun h=>J.f8 (un h)),(fun h=>J.f9 (un h)),(fun h=>J.f10 (un h)),(fun h h2=>(J.f11 (un h) (un h2))),(fun h h2=>(J.f12 (un h) (un h2))),(fun h=>absurd (((hcl 13 1 (by kernel_rfl) (hcl 1 0 (by kernel_rfl) hLi))).symm.trans (un h)) (by simp)),(fun h=>absurd (((hcl 14 13 (by kernel_rfl) (hcl 13 1 (by kernel_rfl) (hcl 1 0 (by kernel_rfl) hLi)))).symm.trans (un h)) (by simp)),(fun h=>absurd (((hcl 15 14 (by kernel_rfl) (hcl 14 13 (by kernel_rfl) (hcl 13 1 (by kernel_rfl) (hcl 1 0 (by kernel_rfl) hLi))))).symm.trans (un h)) (by simp)),(fun h=>J.b (un h)),J.gr⟩⟩
  ·skip
   obtain rfl:=J.f0 (haft ⟨0,.data⟩ (by simp) rfl)
   have hGr:=J.gr ((hcl 15 14 (by kernel_rfl) (hcl 14 13 (by kernel_rfl) (hcl 13 1 (by kernel_rfl) hLi))))
   have hbk:=(hGr.block _ (Array.getElem?_eq_some_iff.1 HX.out).1 hxh).trans HX.out
   obtain ⟨q0,q1,q2,q3,q4⟩:=fiveO hbk
   go_simp
   exact hK _ _ ⟨_,_,_,_,_,_,_,_,_,_,_,_,_,_,_,rfl,⟨(fun h=>J.f0 (un h)),(fun _=>rfl),(fun h=>J.f2 (un h)),(fun h=>J.f3 (un h)),(fun h=>J.f4 (un h)),(fun h=>J.f5 (un h)),(fun h=>J.f6 (un h)),(fun h=>J.f7 (un h)),(fun h=>J.f8 (un h)),(fun h=>J.f9 (un h)),(fun h=>J.f10 (un h)),(fun h h2=>(J.f11 (un h) (un h2))),(fun h h2=>(J.f12 (un h) (un h2))),(fun h=>absurd (((hcl 13 1 (by kernel_rfl) hLi)).symm.trans (un h)) (by simp)),(fun h=>absurd (((hcl 14 13 (by kernel_rfl) (hcl 13 1 (by kernel_rfl) hLi))).symm.trans (un h)) (by simp)),(fun h=>absurd (((hcl 15 14 (by kernel_rfl) (hcl 14 13 (by kernel_rfl) (hcl 13 1 (by kernel_rfl) hLi)))).symm.trans (un h)) (by simp)),(fun h=>J.b (un h)),J.gr⟩⟩
  ·skip
   have hGr:=J.gr ((hcl 15 14 (by kernel_rfl) (hcl 14 13 (by kernel_rfl) (hcl 13 2 (by kernel_rfl) hLi))))
   have hbk:=(hGr.block _ (Array.getElem?_eq_some_iff.1 HRb.out).1 hrh).trans HRb.out
   have q0:=cellB (p:=0) hbk
   go_simp
   exact hK _ _ ⟨_,_,_,_,_,_,_,_,_,_,_,_,_,_,_,rfl,⟨(fun h=>J.f0 (un h)),(fun h=>J.f1 (un h)),(fun _=>rfl),(fun h=>J.f3 (un h)),(fun h=>J.f4 (un h)),(fun h=>J.f5 (un h)),(fun h=>J.f6 (un h)),(fun h=>J.f7 (un h)),(fun h=>J.f8 (un h)),(fun h=>J.f9 (un h)),(fun h=>J.f10 (un h)),(fun h h2=>(J.f11 (un h) (un h2))),(fun h h2=>(J.f12 (un h) (un h2))),(fun h=>absurd (((hcl 13 2 (by kernel_rfl) hLi)).symm.trans (un h)) (by simp)),(fun h=>absurd (((hcl 14 13 (by kernel_rfl) (hcl 13 2 (by kernel_rfl) hLi))).symm.trans (un h)) (by simp)),(fun h=>absurd (((hcl 15 14 (by kernel_rfl) (hcl 14 13 (by kernel_rfl) (hcl 13 2 (by kernel_rfl) hLi)))).symm.trans (un h)) (by simp)),(fun h=>J.b (un h)),J.gr⟩⟩
  ·skip
   have hN:=(hcl 12 8 (by kernel_rfl) (hcl 8 7 (by kernel_rfl) (hcl 7 6 (by kernel_rfl) (hcl 6 4 (by kernel_rfl) (hcl 4 3 (by kernel_rfl) hLi)))))
   have hB:=J.b hN
   go_simp
   exact hK _ _ ⟨_,_,_,_,_,_,_,_,_,_,_,_,_,_,_,rfl,⟨(fun h=>J.f0 (un h)),(fun h=>J.f1 (un h)),(fun h=>J.f2 (un h)),(fun _=>rfl),(fun h=>absurd (((hcl 4 3 (by kernel_rfl) hLi)).symm.trans (un h)) (by simp)),(fun h=>J.f5 (un h)),(fun h=>absurd (((hcl 6 4 (by kernel_rfl) (hcl 4 3 (by kernel_rfl) hLi))).symm.trans (un h)) (by simp)),(fun h=>absurd (((hcl 7 6 (by kernel_rfl) (hcl 6 4 (by kernel_rfl) (hcl 4 3 (by kernel_rfl) hLi)))).symm.trans (un h)) (by simp)),(fun h=>absurd (((hcl 8 7 (by kernel_rfl) (hcl 7 6 (by kernel_rfl) (hcl 6 4 (by kernel_rfl) (hcl 4 3 (by kernel_rfl) hLi))))).symm.trans (un h)) (by simp)),(fun h=>J.f9 (un h)),(fun h=>J.f10 (un h)),(fun h h2=>(J.f11 (un h) (un h2))),(fun h _=>absurd (((hcl 12 8 (by kernel_rfl) (hcl 8 7 (by kernel_rfl) (hcl 7 6 (by kernel_rfl) (hcl 6 4 (by kernel_rfl) (hcl 4 3 (by kernel_rfl) hLi)))))).symm.trans (un h)) (by simp)),(fun h=>J.f13 (un h)),(fun h=>J.f14 (un h)),(fun h=>absurd (((hcl 15 12 (by kernel_rfl) (hcl 12 8 (by kernel_rfl) (hcl 8 7 (by kernel_rfl) (hcl 7 6 (by kernel_rfl) (hcl 6 4 (by kernel_rfl) (hcl 4 3 (by kernel_rfl) hLi))))))).symm.trans (un h)) (by simp)),(fun _=>hB),J.gr⟩⟩
  ·skip
   have hN:=(hcl 12 8 (by kernel_rfl) (hcl 8 7 (by kernel_rfl) (hcl 7 6 (by kernel_rfl) (hcl 6 4 (by kernel_rfl) hLi))))
   have hB:=J.b hN
   obtain rfl:=J.f3 (haft ⟨3,.data⟩ (by simp) rfl)
   have hGr:=J.gr ((hcl 15 12 (by kernel_rfl) (hcl 12 8 (by kernel_rfl) (hcl 8 7 (by kernel_rfl) (hcl 7 6 (by kernel_rfl) (hcl 6 4 (by kernel_rfl) hLi))))))
   have hbk:=(hGr.block _ (Array.getElem?_eq_some_iff.1 HX.out).1 hxh).trans HX.out
   obtain ⟨q0,q1,q2,q3,q4⟩:=fiveO hbk
   go_simp
   exact hK _ _ ⟨_,_,_,_,_,_,_,_,_,_,_,_,_,_,_,rfl,⟨(fun h=>J.f0 (un h)),(fun h=>J.f1 (un h)),(fun h=>J.f2 (un h)),(fun h=>J.f3 (un h)),(fun _=>rfl),(fun h=>J.f5 (un h)),(fun h=>absurd (((hcl 6 4 (by kernel_rfl) hLi)).symm.trans (un h)) (by simp)),(fun h=>absurd (((hcl 7 6 (by kernel_rfl) (hcl 6 4 (by kernel_rfl) hLi))).symm.trans (un h)) (by simp)),(fun h=>absurd (((hcl 8 7 (by kernel_rfl) (hcl 7 6 (by kernel_rfl) (hcl 6 4 (by kernel_rfl) hLi)))).symm.trans (un h)) (by simp)),(fun h=>J.f9 (un h)),(fun h=>J.f10 (un h)),(fun h h2=>(J.f11 (un h) (un h2))),(fun h _=>absurd (((hcl 12 8 (by kernel_rfl) (hcl 8 7 (by kernel_rfl) (hcl 7 6 (by kernel_rfl) (hcl 6 4 (by kernel_rfl) hLi))))).symm.trans (un h)) (by simp)),(fun h=>J.f13 (un h)),(fun h=>J.f14 (un h)),(fun h=>absurd (((hcl 15 12 (by kernel_rfl) (hcl 12 8 (by kernel_rfl) (hcl 8 7 (by kernel_rfl) (hcl 7 6 (by kernel_rfl) (hcl 6 4 (by kernel_rfl) hLi)))))).symm.trans (un h)) (by simp)),(fun _=>hB),J.gr⟩⟩
  ·skip
   have hN:=(hcl 12 8 (by kernel_rfl) (hcl 8 7 (by kernel_rfl) (hcl 7 6 (by kernel_rfl) (hcl 6 5 (by kernel_rfl) hLi))))
   have hB:=J.b hN
   have hGr:=J.gr ((hcl 15 12 (by kernel_rfl) (hcl 12 8 (by kernel_rfl) (hcl 8 7 (by kernel_rfl) (hcl 7 6 (by kernel_rfl) (hcl 6 5 (by kernel_rfl) hLi))))))
   have hbk:=(hGr.block _ (Array.getElem?_eq_some_iff.1 HRb.out).1 hrh).trans HRb.out
   have q0:=cellB (p:=0) hbk
   go_simp
   exact hK _ _ ⟨_,_,_,_,_,_,_,_,_,_,_,_,_,_,_,rfl,⟨(fun h=>J.f0 (un h)),(fun h=>J.f1 (un h)),(fun h=>J.f2 (un h)),(fun h=>J.f3 (un h)),(fun h=>J.f4 (un h)),(fun _=>rfl),(fun h=>absurd (((hcl 6 5 (by kernel_rfl) hLi)).symm.trans (un h)) (by simp)),(fun h=>absurd (((hcl 7 6 (by kernel_rfl) (hcl 6 5 (by kernel_rfl) hLi))).symm.trans (un h)) (by simp)),(fun h=>absurd (((hcl 8 7 (by kernel_rfl) (hcl 7 6 (by kernel_rfl) (hcl 6 5 (by kernel_rfl) hLi)))).symm.trans (un h)) (by simp)),(fun h=>J.f9 (un h)),(fun h=>J.f10 (un h)),(fun h h2=>(J.f11 (un h) (un h2))),(fun h _=>absurd (((hcl 12 8 (by kernel_rfl) (hcl 8 7 (by kernel_rfl) (hcl 7 6 (by kernel_rfl) (hcl 6 5 (by kernel_rfl) hLi))))).symm.trans (un h)) (by simp)),(fun h=>J.f13 (un h)),(fun h=>J.f14 (un h)),(fun h=>absurd (((hcl 15 12 (by kernel_rfl) (hcl 12 8 (by kernel_rfl) (hcl 8 7 (by kernel_rfl) (hcl 7 6 (by kernel_rfl) (hcl 6 5 (by kernel_rfl) hLi)))))).symm.trans (un h)) (by simp)),(fun _=>hB),J.gr⟩⟩
  ·skip
   have hN:=(hcl 12 8 (by kernel_rfl) (hcl 8 7 (by kernel_rfl) (hcl 7 6 (by kernel_rfl) hLi)))
   have hB:=J.b hN
   obtain rfl:=J.f4 (haft ⟨4,.data⟩ (by simp) rfl)
   obtain rfl:=J.f5 (haft ⟨5,.data⟩ (by simp) rfl)
   go_simp
   exact hK _ _ ⟨_,_,_,_,_,_,_,_,_,_,_,_,_,_,_,rfl,⟨(fun h=>J.f0 (un h)),(fun h=>J.f1 (un h)),(fun h=>J.f2 (un h)),(fun h=>J.f3 (un h)),(fun h=>J.f4 (un h)),(fun h=>J.f5 (un h)),(fun _=>rfl),(fun h=>absurd (((hcl 7 6 (by kernel_rfl) hLi)).symm.trans (un h)) (by simp)),(fun h=>absurd (((hcl 8 7 (by kernel_rfl) (hcl 7 6 (by kernel_rfl) hLi))).symm.trans (un h)) (by simp)),(fun h=>J.f9 (un h)),(fun h=>J.f10 (un h)),(fun h h2=>(J.f11 (un h) (un h2))),(fun h _=>absurd (((hcl 12 8 (by kernel_rfl) (hcl 8 7 (by kernel_rfl) (hcl 7 6 (by kernel_rfl) hLi)))).symm.trans (un h)) (by simp)),(fun h=>J.f13 (un h)),(fun h=>J.f14 (un h)),(fun h=>absurd (((hcl 15 12 (by kernel_rfl) (hcl 12 8 (by kernel_rfl) (hcl 8 7 (by kernel_rfl) (hcl 7 6 (by kernel_rfl) hLi))))).symm.trans (un h)) (by simp)),(fun _=>hB),J.gr⟩⟩
  ·skip
   have hN:=(hcl 12 8 (by kernel_rfl) (hcl 8 7 (by kernel_rfl) hLi))
   have hB:=J.b hN
   obtain rfl:=J.f6 (haft ⟨6,.data⟩ (by simp) rfl)
   go_simp
   exact hK _ _ ⟨_,_,_,_,_,_,_,_,_,_,_,_,_,_,_,rfl,⟨(fun h=>J.f0 (un h)),(fun h=>J.f1 (un h)),(fun h=>J.f2 (un h)),(fun h=>J.f3 (un h)),(fun h=>J.f4 (un h)),(fun h=>J.f5 (un h)),(fun h=>J.f6 (un h)),(fun _=>rfl),(fun h=>absurd (((hcl 8 7 (by kernel_rfl) hLi)).symm.trans (un h)) (by simp)),(fun h=>J.f9 (un h)),(fun h=>J.f10 (un h)),(fun h h2=>(J.f11 (un h) (un h2))),(fun h _=>absurd (((hcl 12 8 (by kernel_rfl) (hcl 8 7 (by kernel_rfl) hLi))).symm.trans (un h)) (by simp)),(fun h=>J.f13 (un h)),(fun h=>J.f14 (un h)),(fun h=>absurd (((hcl 15 12 (by kernel_rfl) (hcl 12 8 (by kernel_rfl) (hcl 8 7 (by kernel_rfl) hLi)))).symm.trans (un h)) (by simp)),(fun _=>hB),J.gr⟩⟩
  ·skip
   have hN:=(hcl 12 8 (by kernel_rfl) hLi)
   have hB:=J.b hN
   obtain rfl:=J.f7 (haft ⟨7,.data⟩ (by simp) rfl)
   have hGr:=J.gr ((hcl 15 12 (by kernel_rfl) (hcl 12 8 (by kernel_rfl) hLi)))
   have q0:=(cellB (p:=r * 2) ((hGr.block _ (Array.getElem?_eq_some_iff.1 HG.out).1 hgh).trans HG.out)).trans HQ.out
   go_simp
   exact hK _ _ ⟨_,_,_,_,_,_,_,_,_,_,_,_,_,_,_,rfl,⟨(fun h=>J.f0 (un h)),(fun h=>J.f1 (un h)),(fun h=>J.f2 (un h)),(fun h=>J.f3 (un h)),(fun h=>J.f4 (un h)),(fun h=>J.f5 (un h)),(fun h=>J.f6 (un h)),(fun h=>J.f7 (un h)),(fun _=>rfl),(fun h=>J.f9 (un h)),(fun h=>J.f10 (un h)),(fun h h2=>(J.f11 (un h) (un h2))),(fun h _=>absurd (((hcl 12 8 (by kernel_rfl) hLi)).symm.trans (un h)) (by simp)),(fun h=>J.f13 (un h)),(fun h=>J.f14 (un h)),(fun h=>absurd (((hcl 15 12 (by kernel_rfl) (hcl 12 8 (by kernel_rfl) hLi))).symm.trans (un h)) (by simp)),(fun _=>hB),J.gr⟩⟩
  ·skip
   have hN:=(hcl 12 9 (by kernel_rfl) hLi)
   have hB:=J.b hN
   have hGr:=J.gr ((hcl 15 12 (by kernel_rfl) (hcl 12 9 (by kernel_rfl) hLi)))
   have hbk:=(hGr.block _ (Array.getElem?_eq_some_iff.1 HAb.out).1 hah).trans HAb.out
   have q0:=cellB (p:=0) hbk
   go_simp
   exact hK _ _ ⟨_,_,_,_,_,_,_,_,_,_,_,_,_,_,_,rfl,⟨(fun h=>J.f0 (un h)),(fun h=>J.f1 (un h)),(fun h=>J.f2 (un h)),(fun h=>J.f3 (un h)),(fun h=>J.f4 (un h)),(fun h=>J.f5 (un h)),(fun h=>J.f6 (un h)),(fun h=>J.f7 (un h)),(fun h=>J.f8 (un h)),(fun _=>rfl),(fun h=>J.f10 (un h)),(fun h h2=>(J.f11 (un h) (un h2))),(fun h _=>absurd (((hcl 12 9 (by kernel_rfl) hLi)).symm.trans (un h)) (by simp)),(fun h=>J.f13 (un h)),(fun h=>J.f14 (un h)),(fun h=>absurd (((hcl 15 12 (by kernel_rfl) (hcl 12 9 (by kernel_rfl) hLi))).symm.trans (un h)) (by simp)),(fun _=>hB),J.gr⟩⟩
  ·skip
   have hN:=(hcl 12 11 (by kernel_rfl) (hcl 11 10 (by kernel_rfl) hLi))
   have hB:=J.b hN
   have hGr:=J.gr ((hcl 15 12 (by kernel_rfl) (hcl 12 11 (by kernel_rfl) (hcl 11 10 (by kernel_rfl) hLi))))
   have hbk:=(hGr.block _ (Array.getElem?_eq_some_iff.1 HCb.out).1 hch).trans HCb.out
   obtain ⟨q0,q1,q2,q3,q4,q5,q6,q7,q8,q9,q10⟩:=elevenO hbk
   go_simp
   exact hK _ _ ⟨_,_,_,_,_,_,_,_,_,_,_,_,_,_,_,rfl,⟨(fun h=>J.f0 (un h)),(fun h=>J.f1 (un h)),(fun h=>J.f2 (un h)),(fun h=>J.f3 (un h)),(fun h=>J.f4 (un h)),(fun h=>J.f5 (un h)),(fun h=>J.f6 (un h)),(fun h=>J.f7 (un h)),(fun h=>J.f8 (un h)),(fun h=>J.f9 (un h)),(fun _=>rfl),(fun h _=>absurd (((hcl 11 10 (by kernel_rfl) hLi)).symm.trans (un h)) (by simp)),(fun h _=>absurd (((hcl 12 11 (by kernel_rfl) (hcl 11 10 (by kernel_rfl) hLi))).symm.trans (un h)) (by simp)),(fun h=>J.f13 (un h)),(fun h=>J.f14 (un h)),(fun h=>absurd (((hcl 15 12 (by kernel_rfl) (hcl 12 11 (by kernel_rfl) (hcl 11 10 (by kernel_rfl) hLi)))).symm.trans (un h)) (by simp)),(fun _=>hB),J.gr⟩⟩
  ·skip
   have hN:=(hcl 12 11 (by kernel_rfl) hLi)
   have hB:=J.b hN
   obtain rfl:=J.f10 (haft ⟨10,.data⟩ (by simp) rfl)
   have hGr:=J.gr ((hcl 15 12 (by kernel_rfl) (hcl 12 11 (by kernel_rfl) hLi)))
   go_simp
   exact hK _ _ ⟨_,_,_,_,_,_,_,_,_,_,_,_,_,_,_,rfl,⟨(fun h=>J.f0 (un h)),(fun h=>J.f1 (un h)),(fun h=>J.f2 (un h)),(fun h=>J.f3 (un h)),(fun h=>J.f4 (un h)),(fun h=>J.f5 (un h)),(fun h=>J.f6 (un h)),(fun h=>J.f7 (un h)),(fun h=>J.f8 (un h)),(fun h=>J.f9 (un h)),(fun h=>J.f10 (un h)),(fun _ _=>⟨_,rfl,newestB _ _,hB.size⟩),(fun h _=>absurd (((hcl 12 11 (by kernel_rfl) hLi)).symm.trans (un h)) (by simp)),(fun h=>J.f13 (un h)),(fun h=>J.f14 (un h)),(fun h=>absurd (((hcl 15 12 (by kernel_rfl) (hcl 12 11 (by kernel_rfl) hLi))).symm.trans (un h)) (by simp)),(fun _=>k_alloc hB _),(fun _=>grown_trans hGr (grown_below (k_alloc (Below.refl _ _) _)))⟩⟩
  ·skip
   have hN:=hLi
   have hB:=J.b hN
   obtain rfl:=J.f8 (haft ⟨8,.data⟩ (by simp) rfl)
   obtain rfl:=J.f9 (haft ⟨9,.data⟩ (by simp) rfl)
   obtain ⟨vb,rfl,hvb,hvl⟩:=J.f11 (haft ⟨11,.data⟩ (by simp) rfl) hLi
   go_simp
   go_wp2_with (go_at_call 58;refine (KD.out W hB vb hvl hvb).mono ?_;rintro e W2 ⟨a9,c9,rfl,hE,hG,hat⟩)
   exact ⟨_,_,_,_,_,_,_,_,_,_,_,_,_,_,_,rfl,⟨(fun h=>J.f0 (un h)),(fun h=>J.f1 (un h)),(fun h=>J.f2 (un h)),(fun h=>J.f3 (un h)),(fun h=>J.f4 (un h)),(fun h=>J.f5 (un h)),(fun h=>J.f6 (un h)),(fun h=>J.f7 (un h)),(fun h=>J.f8 (un h)),(fun h=>J.f9 (un h)),(fun h=>J.f10 (un h)),(fun _ h=>absurd (h.symm.trans upd_self) (by simp)),(fun _ _=>⟨a9,c9,rfl,hE,hat⟩),(fun h=>J.f13 (un h)),(fun h=>J.f14 (un h)),(fun h=>absurd (((hcl 15 12 (by kernel_rfl) hLi)).symm.trans (un h)) (by simp)),(fun h=>absurd (h.symm.trans upd_self) (by simp)),(fun _=>grown_trans (J.gr (hcl 15 12 (by kernel_rfl) hLi)) hG)⟩⟩
  ·skip
   obtain rfl:=J.f1 (haft ⟨1,.data⟩ (by simp) rfl)
   obtain rfl:=J.f2 (haft ⟨2,.data⟩ (by simp) rfl)
   go_simp
   exact hK _ _ ⟨_,_,_,_,_,_,_,_,_,_,_,_,_,_,_,rfl,⟨(fun h=>J.f0 (un h)),(fun h=>J.f1 (un h)),(fun h=>J.f2 (un h)),(fun h=>J.f3 (un h)),(fun h=>J.f4 (un h)),(fun h=>J.f5 (un h)),(fun h=>J.f6 (un h)),(fun h=>J.f7 (un h)),(fun h=>J.f8 (un h)),(fun h=>J.f9 (un h)),(fun h=>J.f10 (un h)),(fun h h2=>(J.f11 (un h) (un h2))),(fun h h2=>(J.f12 (un h) (un h2))),(fun _=>rfl),(fun h=>absurd (((hcl 14 13 (by kernel_rfl) hLi)).symm.trans (un h)) (by simp)),(fun h=>absurd (((hcl 15 14 (by kernel_rfl) (hcl 14 13 (by kernel_rfl) hLi))).symm.trans (un h)) (by simp)),(fun h=>J.b (un h)),J.gr⟩⟩
  ·skip
   obtain rfl:=J.f13 (haft ⟨13,.data⟩ (by simp) rfl)
   go_simp
   exact hK _ _ ⟨_,_,_,_,_,_,_,_,_,_,_,_,_,_,_,rfl,⟨(fun h=>J.f0 (un h)),(fun h=>J.f1 (un h)),(fun h=>J.f2 (un h)),(fun h=>J.f3 (un h)),(fun h=>J.f4 (un h)),(fun h=>J.f5 (un h)),(fun h=>J.f6 (un h)),(fun h=>J.f7 (un h)),(fun h=>J.f8 (un h)),(fun h=>J.f9 (un h)),(fun h=>J.f10 (un h)),(fun h h2=>(J.f11 (un h) (un h2))),(fun h h2=>(J.f12 (un h) (un h2))),(fun h=>J.f13 (un h)),(fun _=>rfl),(fun h=>absurd (((hcl 15 14 (by kernel_rfl) hLi)).symm.trans (un h)) (by simp)),(fun h=>J.b (un h)),J.gr⟩⟩
  ·skip
   have h12:L 12=true:=(haft ⟨12,.data⟩ (by simp) rfl)
   obtain ⟨a9,c9,rfl,hC,hat⟩:=J.f12 h12 hLi
   obtain rfl:=J.f14 (haft ⟨14,.data⟩ (by simp) rfl)
   have hGr:=J.gr hLi
   have hbk:=(hGr.block _ (Array.getElem?_eq_some_iff.1 HG.out).1 hgh).trans HG.out
   obtain ⟨y0,hy0⟩:=someB (p:=r * 2) hbk (Array.getElem?_eq_some_iff.1 HQ.out).1
   have fz:=freeB (p:=r * 2) hbk
   go_simp
   exact hK _ _ ⟨_,_,_,_,_,_,_,_,_,_,_,_,_,_,_,rfl,⟨(fun h=>J.f0 (un h)),(fun h=>J.f1 (un h)),(fun h=>J.f2 (un h)),(fun h=>J.f3 (un h)),(fun h=>J.f4 (un h)),(fun h=>J.f5 (un h)),(fun h=>J.f6 (un h)),(fun h=>J.f7 (un h)),(fun h=>J.f8 (un h)),(fun h=>J.f9 (un h)),(fun h=>J.f10 (un h)),(fun h h2=>absurd ((un h2).symm.trans h12) (by simp)),(fun _ h=>absurd (h.symm.trans upd_self) (by simp)),(fun h=>J.f13 (un h)),(fun h=>J.f14 (un h)),(fun _=>⟨a9,c9,W,hGr,hC,hat,rfl⟩),(fun h=>absurd ((un h).symm.trans h12) (by simp)),(fun h=>absurd (h.symm.trans upd_self) (by simp))⟩⟩
end Go.Proofs.Ytggmjiddadjilao
namespace Go.Proofs.Ytggmjiddadjilao
open Go.RowKit

set_option maxRecDepth 100000 in
set_option maxHeartbeats 2000000 in
theorem behindPut_no (xb:Nat) (p0 p1 p2 p3:Value) (a0 a3:Option Addr) (n0 c0 n3 c3:Nat) (i1 i2 i4:Int) (w:World) (hx:w.heap[xb]?=some (.cells #[.slice a0 n0 c0,.int .i64 i1,.int .i64 i2,.slice a3 n3 c3,.int .i64 i4] 56)) :
  Calls Try.prog 56 #[.pointer (some ⟨xb,0,none⟩),.bool false,.func (.func 57) #[] #[p0,p1,p2,p3]] w fun e w'=>e=.returned (.tuple #[.agg #[.slice a0 n0 c0,.int .i64 i1,.int .i64 i2,.slice a3 n3 c3,.int .i64 i4],.bool false])∧Below w.heap.size w w':=by
 have hX:=(Below.heap_alloc w (.cells #[.slice none 0 0,.int .i64 0,.int .i64 0,.slice none 0 0,.int .i64 0] 56) xb (Array.getElem?_eq_some_iff.1 hx).1).trans hx
 have hZ:=newestB w (.cells #[.slice none 0 0,.int .i64 0,.int .i64 0,.slice none 0 0,.int .i64 0] 56)
 have HK:=Hid.intro (k_alloc (Below.refl w.heap.size w) (.cells #[.slice none 0 0,.int .i64 0,.int .i64 0,.slice none 0 0,.int .i64 0] 56))
 have HX:=Hid.intro hX
 have HZ:=Hid.intro hZ
 clear hx hX hZ
 go_enter Try.func56,Try.ntmps56
 go_upto_region 1 with fail
 generalize w.alloc (.cells #[.slice none 0 0,.int .i64 0,.int .i64 0,.slice none 0 0,.int .i64 0] 56)=W0 at HK HX HZ ⊢
 obtain ⟨z0,z1,z2,z3,z4⟩:=fiveO HX.out
 obtain ⟨d0,d1,d2,d3,d4⟩:=fiveO HZ.out
 have fz:∀ p,W0.frozen? ⟨w.heap.size,p,none⟩=false:=fun p=>freeB HZ.out
 go_wp2
 exact bodyPost_ret (v:=.tuple #[.agg #[.slice a0 n0 c0,.int .i64 i1,.int .i64 i2,.slice a3 n3 c3,.int .i64 i4],.bool false]) (by simp [results,Try.results56,go_sem,d0,d1,d2,d3,d4]) rfl ⟨rfl,k_set (k_set (k_set (k_set (k_set HK.out (Nat.le_refl _) _) (Nat.le_refl _) _) (Nat.le_refl _) _) (Nat.le_refl _) _) (Nat.le_refl _) _⟩
set_option maxRecDepth 100000 in
set_option maxHeartbeats 2000000 in
theorem behindPut_yes (xb:Nat) (p0 p1 p2 p3:Value) (a0 a3:Option Addr) (n0 c0 n3 c3:Nat) (i1 i2 i4:Int) (w:World) (P:World→Prop) (hP:∀ W W',P W→(∀ k,k ≠ w.heap.size→W'.heap[k]?=W.heap[k]?)→W'.heap.size=W.heap.size→W'.os=W.os→W'.tape=W.tape→W'.output=W.output→P W')
  (hcl:Calls Try.prog 57 #[p0,p1,p2,p3] (w.alloc (.cells #[.slice none 0 0,.int .i64 0,.int .i64 0,.slice none 0 0,.int .i64 0] 56)) fun e w'=>e=.returned (.tuple #[])∧P w'∧w'.heap[xb]?=some (.cells #[.slice a0 n0 c0,.int .i64 i1,.int .i64 i2,.slice a3 n3 c3,.int .i64 i4] 56)∧w'.heap[w.heap.size]?=some (.cells #[.slice none 0 0,.int .i64 0,.int .i64 0,.slice none 0 0,.int .i64 0] 56)) :
  Calls Try.prog 56 #[.pointer (some ⟨xb,0,none⟩),.bool true,.func (.func 57) #[] #[p0,p1,p2,p3]] w fun e w'=>e=.returned (.tuple #[.agg #[.slice a0 n0 c0,.int .i64 i1,.int .i64 i2,.slice a3 n3 c3,.int .i64 i4],.bool true])∧P w':=by
 have HC:=Hid.intro hcl
 have HP:=Hid.intro hP
 clear hcl hP
 go_enter Try.func56,Try.ntmps56
 go_upto_region 1 with fail
 generalize w.alloc (.cells #[.slice none 0 0,.int .i64 0,.int .i64 0,.slice none 0 0,.int .i64 0] 56)=W0 at HC ⊢
 go_wp2_with (go_at_call 57;refine HC.out.mono ?_;rintro e w1 ⟨rfl,hP1,hX1,hZ1⟩;have HP1:=Hid.intro hP1;have HX1:=Hid.intro hX1;have HZ1:=Hid.intro hZ1;obtain ⟨z0,z1,z2,z3,z4⟩:=fiveO hX1;obtain ⟨d0,d1,d2,d3,d4⟩:=fiveO hZ1;have fz:∀ p,w1.frozen? ⟨w.heap.size,p,none⟩=false:=fun p=>freeB hZ1;clear hP1 hX1 hZ1)
 exact bodyPost_ret (v:=.tuple #[.agg #[.slice a0 n0 c0,.int .i64 i1,.int .i64 i2,.slice a3 n3 c3,.int .i64 i4],.bool true]) (by simp [results,Try.results56,go_sem,d0,d1,d2,d3,d4]) rfl ⟨rfl,HP.out _ _ HP1.out (fun k hk=>by iterate 5 rw [Below.heap_setCell _ _ _ _ (by dsimp only;exact hk)]) (by iterate 5 rw [sizeSet]) rfl rfl rfl⟩
end Go.Proofs.Ytggmjiddadjilao
