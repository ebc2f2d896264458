/-
  PROVED HERE: what the model's EdtPut answers: of a table that is ok the table with one cell more, or the table as it is, in memory of its own; else nothing; nothing that was in memory is turned. Also: what the closure of the program's EdtTake does: it takes one cell of the copy out of its row, and turns nothing else that was in memory. Also: what the program's behind answers with the closure of EdtTake: what the copy is behind the closure, or the copy as it was; nothing else is turned.
-/
import Derived.Test.YtggmjiddadjilajC9
import Derived.Test.YtggmjiddadjilajC11
import Derived.Test.YtggmjiddadjilajC12
import Derived.Test.YtggmjiddadjilajC3
import Derived.Test.YtggmjiddadjilajC6
import Derived.Test.YtggmjiddadjilajC7
import Derived.Test.YtggmjiddadjilajC2
namespace Go.Proofs.Ytggmjiddadjilaj
open Go.RowKit

/-- where the cells of a slice lie that is cut out of another one -/
def Src (w:World) (A:Option Addr) (k:Nat) (news:List Value):Prop:=(k ≠ 0→A ≠ none)∧∀ W,Below w.heap.size w W→∀ p,A=some p→∀ j u,news[j]?=some u→W.cell? (p.add j)=some u
structure PsJ (xb g r a n c2 m cu:Nat) (au:Option Addr) (cs:List C) (x:C) (W3:World) (L:Nat→Bool) (W:World) (v59 v60 v61 v62 v63 v64 v65 v66 v67 v68 v69 v70 v71 v72 v73 v74 v75:Value):Prop where
 f0:L 0=true→v59=.pointer (some ⟨xb,3,none⟩)
 f1:L 1=true→v60=.slice (some ⟨g,0,none⟩) n c2
 f2:L 2=true→v61=.int .i64 r
 f3:L 3=true→L 7=false→W.ownsRow W3.heap.size 41 11 v62 0 []
 f4:L 4=true→v63=.slice au m cu
 f5:L 5=true→v64=.int .i64 a
 f6:L 6=true→∃ A c,v65=.slice A a c∧Src W3 A a ((cs.take a).flatMap cellVs)
 f7:L 7=true→L 10=false→W.ownsRow W3.heap.size 41 11 v66 a ((cs.take a).flatMap cellVs)
 f8:L 8=true→v67=.agg #[.string x.s,.int .i64 x.c,.int .i64 x.r,.int .i64 x.a1,.int .i64 x.b1,.int .i64 x.a2,.int .i64 x.b2,.int .i64 x.a3,.int .i64 x.b3,.int .i64 x.a4,.int .i64 x.b4]
 f9:L 9=true→L 10=false→∃ vb,v68=.slice (some ⟨vb,0,none⟩) 1 1∧W.heap[vb]?=some (.cells (cellVs x).toArray 41)∧W3.heap.size≤vb
 f10:L 10=true→L 14=false→W.ownsRow W3.heap.size 41 11 v69 (a+1) ((cs.take a).flatMap cellVs ++ cellVs x)
 f11:L 11=true→v70=.slice au m cu
 f12:L 12=true→v71=.int .i64 a
 f13:L 13=true→∃ A c,v72=.slice A (m - a) c∧Src W3 A (m - a) ((cs.drop a).flatMap cellVs)
 f14:L 14=true→L 17=false→∃ ad c,v73=.slice ad (a+1+(m - a)) c∧OwnC W W3.heap.size v73 (insC cs a x)
 f15:L 15=true→v74=.pointer (some ⟨g,r * 2,none⟩)
 f16:L 16=true→v75=.pointer (some ⟨g,r * 2,none⟩)
 f17:L 17=true→∃ ad c W9,Below W3.heap.size W3 W9∧OwnC W9 W3.heap.size (.slice ad (a+1+(m - a)) c) (insC cs a x)∧W=W9.setCell ⟨g,r * 2,none⟩ (.slice ad (a+1+(m - a)) c)
 b:L 17=false→Below W3.heap.size W3 W
 ne:L 3=true→L 9=true→L 7=false→∀ vb,v68=.slice (some ⟨vb,0,none⟩) 1 1→v62.ownBlock ≠ some vb
end Go.Proofs.Ytggmjiddadjilaj
namespace Go.Proofs.Ytggmjiddadjilaj
open Go.RowKit

structure TkJ (xb g h r a n c2 m cu B:Nat) (cs:List C) (W3:World) (L:Nat→Bool) (W:World) (v3 v4 v5 v6 v7 v8 v9 v10 v11 v12 v13 v14 v15 v16 v17:Value):Prop where
 f0:L 0=true→v3=.pointer (some ⟨xb,3,none⟩)
 f1:L 1=true→v4=.slice (some ⟨g,0,none⟩) n c2
 f2:L 2=true→v5=.int .i64 r
 f3:L 3=true→v6=.pointer (some ⟨xb,3,none⟩)
 f4:L 4=true→v7=.slice (some ⟨g,0,none⟩) n c2
 f5:L 5=true→v8=.int .i64 r
 f6:L 6=true→v9=.pointer (some ⟨g,r * 2,none⟩)
 f7:L 7=true→v10=.pointer (some ⟨g,r * 2,none⟩)
 f8:L 8=true→v11=.slice (some ⟨h,0,none⟩) m cu
 f9:L 9=true→v12=.int .i64 a
 f10:L 10=true→v13=.int .i64 a
 f11:L 11=true→v14=.int .i64 ((a:Int)+1)
 f12:L 12=true→L 15=false→v15=.slice (some ⟨h,0,none⟩) (m - 1) cu∧OwnC W B v15 (cs.eraseIdx a)
 f13:L 13=true→v16=.pointer (some ⟨g,r * 2,none⟩)
 f14:L 14=true→v17=.pointer (some ⟨g,r * 2,none⟩)
 f15:L 15=true→∃ W9,W3.grownBy W9 (some h)∧OwnC W9 B (.slice (some ⟨h,0,none⟩) (m - 1) cu) (cs.eraseIdx a)∧W=W9.setCell ⟨g,r * 2,none⟩ (.slice (some ⟨h,0,none⟩) (m - 1) cu)
 b:L 12=false→Below W3.heap.size W3 W
 gr:L 15=false→W3.grownBy W (some h)
set_option maxRecDepth 100000 in
set_option maxHeartbeats 4000000 in
theorem closTake (xb rb ab g h r a n c2 m cu B:Nat) (a1:Option Addr) (cl c1:Nat) (hd ft gp:Value) (cs:List C) (arr:Array Value) (w:World)
  (hx:w.heap[xb]?=some (.cells #[.slice a1 cl c1,hd,ft,.slice (some ⟨g,0,none⟩) n c2,gp] 37)) (hrb:w.heap[rb]?=some (.cells #[.int .i64 (r:Int)] 3)) (hab:w.heap[ab]?=some (.cells #[.int .i64 (a:Int)] 3))
  (hg:w.heap[g]?=some (.cells arr 52)) (hr:r < n) (hq:arr[r * 2]?=some (.slice (some ⟨h,0,none⟩) m cu)) (hcs:cs.length=m) (ha:a < m) (hm:m≤1048576) (hO:OwnC w B (.slice (some ⟨h,0,none⟩) m cu) cs) :
  Calls Try.prog 57 #[.pointer (some ⟨xb,0,none⟩),.pointer (some ⟨rb,0,none⟩),.pointer (some ⟨ab,0,none⟩)] w fun e w'=>e=.returned (.tuple #[])∧∃ W9,w.grownBy W9 (some h)∧OwnC W9 B (.slice (some ⟨h,0,none⟩) (m - 1) cu) (cs.eraseIdx a)∧w'=W9.setCell ⟨g,r * 2,none⟩ (.slice (some ⟨h,0,none⟩) (m - 1) cu):=by
 have hmx:Try.prog.follows .mixedOrders=true:=by kernel_rfl
 obtain ⟨cur,hh⟩:∃ cur,w.heap[h]?=some (.cells cur 41):=by
  rcases hO.2 with ⟨e,_⟩ | ⟨g',cap',cur,e,hg',hc,_⟩
  ·simp at e
  ·simp only [Value.slice.injEq,Option.some.injEq,Addr.mk.injEq,and_true] at e
   obtain ⟨rfl,_,_⟩:=e
   exact ⟨cur,hc⟩
 have hxh:xb ≠ h:=fun e=>by subst e;rw [hh] at hx;simp at hx
 have hrh:rb ≠ h:=fun e=>by subst e;rw [hh] at hrb;simp at hrb
 have hah:ab ≠ h:=fun e=>by subst e;rw [hh] at hab;simp at hab
 have hgh:g ≠ h:=fun e=>by subst e;rw [hh] at hg;simp at hg
 have HX:=Hid.intro hx
 have HRb:=Hid.intro hrb
 have HAb:=Hid.intro hab
 have HG:=Hid.intro hg
 have HQ:=Hid.intro hq
 have KD:=Hid.intro (fun W (hW:Below w.heap.size w W)=>deleteCells h cu a cs m hcs ha B W (row_kept9 hO hW))
 have HWr:Hid (IntKind.i64.wrap ((a:Int)+1)=(a:Int)+1):=by unfold Hid;rw [IntKind.wrap_i64];omega
 clear hx hrb hab hg hq hh hO hcs
 go_enter Try.func57,Try.ntmps57
 go_upto_region 0 with fail
 refine wp_region_inv2 (fun L act W=>∃ v3 v4 v5 v6 v7 v8 v9 v10 v11 v12 v13 v14 v15 v16 v17:Value,act=⟨#[.pointer (some ⟨xb,0,none⟩),.pointer (some ⟨rb,0,none⟩),.pointer (some ⟨ab,0,none⟩),v3,v4,v5,v6,v7,v8,v9,v10,v11,v12,v13,v14,v15,v16,v17],[]⟩∧TkJ xb g h r a n c2 m cu B cs w L W v3 v4 v5 v6 v7 v8 v9 v10 v11 v12 v13 v14 v15 v16 v17) hmx (by kernel_rfl) ?hs ?hd ?h0
 case h0=>exact ⟨_,_,_,_,_,_,_,_,_,_,_,_,_,_,_,rfl,⟨(fun h=>by cases h),(fun h=>by cases h),(fun h=>by cases h),(fun h=>by cases h),(fun h=>by cases h),(fun h=>by cases h),(fun h=>by cases h),(fun h=>by cases h),(fun h=>by cases h),(fun h=>by cases h),(fun h=>by cases h),(fun h=>by cases h),(fun h=>by cases h),(fun h=>by cases h),(fun h=>by cases h),(fun h=>by cases h),(fun _=>k_drew (Below.refl _ _)),(fun _=>grown_below (k_drew (Below.refl _ _)))⟩⟩
 case hd =>
  intro L act W hJ hall
  obtain ⟨v3,v4,v5,v6,v7,v8,v9,v10,v11,v12,v13,v14,v15,v16,v17,ha,J⟩:=hJ
  subst ha
  obtain ⟨W9,hG9,hC9,rfl⟩:=J.f15 (hall 15 (by decide))
  clear J hall
  go_wp2
  go_end0
  exact ⟨rfl,W9,hG9,hC9,rfl⟩
 case hs =>
  intro L act W i o hJ hcl ho hLi haft K hK
  obtain ⟨v3,v4,v5,v6,v7,v8,v9,v10,v11,v12,v13,v14,v15,v16,v17,ha,J⟩:=hJ
  subst ha
  have hi':i < 16:=by
   have:=(Array.getElem?_eq_some_iff.1 ho).1
   simpa using this
  rcases (by omega:i=0∨i=1∨i=2∨i=3∨i=4∨i=5∨i=6∨i=7∨i=8∨i=9∨i=10∨i=11∨i=12∨i=13∨i=14∨i=15) with rfl | rfl | rfl | rfl | rfl | rfl | rfl | rfl | rfl | rfl | rfl | rfl | rfl | rfl | rfl | rfl
  all_goals
   simp only [List.getElem?_toArray,List.getElem?_cons_zero,List.getElem?_cons_succ,Option.some.injEq] at ho
   subst ho
   clear hi'
  ·skip
   go_simp
   exact hK _ _ ⟨_,_,_,_,_,_,_,_,_,_,_,_,_,_,_,rfl,⟨(fun _=>rfl),(fun h=>absurd (((hcl 1 0 (by kernel_rfl) hLi)).symm.trans (un h)) (by simp)),(fun h=>J.f2 (un h)),(fun h=>J.f3 (un h)),(fun h=>J.f4 (un h)),(fun h=>J.f5 (un h)),(fun h=>J.f6 (un h)),(fun h=>J.f7 (un h)),(fun h=>J.f8 (un h)),(fun h=>J.f9 (un h)),(fun h=>J.f10 (un h)),(fun h=>J.f11 (un h)),(fun h h2=>(J.f12 (un h) (un h2))),(fun h=>absurd (((hcl 13 1 (by kernel_rfl) (hcl 1 0 (by kernel_rfl) hLi))).symm.trans (un h)) (by simp)),(fun h=>absurd (((hcl 14 13 (by kernel_rfl) (hcl 13 1 (by kernel_rfl) (hcl 1 0 (by kernel_rfl) hLi)))).symm.trans (un h)) (by simp)),(fun h=>absurd (((hcl 15 14 (by kernel_rfl) (hcl 14 13 (by kernel_rfl) (hcl 13 1 (by kernel_rfl) (hcl 1 0 (by kernel_rfl) hLi))))).symm.trans (un h)) (by simp)),(fun h=>J.b (un h)),J.gr⟩⟩
  ·skip
   obtain rfl:=J.f0 (haft ⟨0,.data⟩ (by simp) rfl)
   have hGr:=J.gr ((hcl 15 14 (by kernel_rfl) (hcl 14 13 (by kernel_rfl) (hcl 13 1 (by kernel_rfl) hLi))))
   have hbk:=(hGr.block _ (Array.getElem?_eq_some_iff.1 HX.out).1 (fun e=>hxh (Option.some.inj e))).trans HX.out
   obtain ⟨q0,q1,q2,q3,q4⟩:=fiveO hbk
   go_simp
   exact hK _ _ ⟨_,_,_,_,_,_,_,_,_,_,_,_,_,_,_,rfl,⟨(fun h=>J.f0 (un h)),(fun _=>rfl),(fun h=>J.f2 (un h)),(fun h=>J.f3 (un h)),(fun h=>J.f4 (un h)),(fun h=>J.f5 (un h)),(fun h=>J.f6 (un h)),(fun h=>J.f7 (un h)),(fun h=>J.f8 (un h)),(fun h=>J.f9 (un h)),(fun h=>J.f10 (un h)),(fun h=>J.f11 (un h)),(fun h h2=>(J.f12 (un h) (un h2))),(fun h=>absurd (((hcl 13 1 (by kernel_rfl) hLi)).symm.trans (un h)) (by simp)),(fun h=>absurd (((hcl 14 13 (by kernel_rfl) (hcl 13 1 (by kernel_rfl) hLi))).symm.trans (un h)) (by simp)),(fun h=>absurd (((hcl 15 14 (by kernel_rfl) (hcl 14 13 (by kernel_rfl) (hcl 13 1 (by kernel_rfl) hLi)))).symm.trans (un h)) (by simp)),(fun h=>J.b (un h)),J.gr⟩⟩
  ·skip
   have hGr:=J.gr ((hcl 15 14 (by kernel_rfl) (hcl 14 13 (by kernel_rfl) (hcl 13 2 (by kernel_rfl) hLi))))
   have hbk:=(hGr.block _ (Array.getElem?_eq_some_iff.1 HRb.out).1 (fun e=>hrh (Option.some.inj e))).trans HRb.out
   have q0:=cellB (p:=0) hbk
   go_simp
   exact hK _ _ ⟨_,_,_,_,_,_,_,_,_,_,_,_,_,_,_,rfl,⟨(fun h=>J.f0 (un h)),(fun h=>J.f1 (un h)),(fun _=>rfl),(fun h=>J.f3 (un h)),(fun h=>J.f4 (un h)),(fun h=>J.f5 (un h)),(fun h=>J.f6 (un h)),(fun h=>J.f7 (un h)),(fun h=>J.f8 (un h)),(fun h=>J.f9 (un h)),(fun h=>J.f10 (un h)),(fun h=>J.f11 (un h)),(fun h h2=>(J.f12 (un h) (un h2))),(fun h=>absurd (((hcl 13 2 (by kernel_rfl) hLi)).symm.trans (un h)) (by simp)),(fun h=>absurd (((hcl 14 13 (by kernel_rfl) (hcl 13 2 (by kernel_rfl) hLi))).symm.trans (un h)) (by simp)),(fun h=>absurd (((hcl 15 14 (by kernel_rfl) (hcl 14 13 (by kernel_rfl) (hcl 13 2 (by kernel_rfl) hLi)))).symm.trans (un h)) (by simp)),(fun h=>J.b (un h)),J.gr⟩⟩
  ·skip
   have hN:=(hcl 12 8 (by kernel_rfl) (hcl 8 7 (by kernel_rfl) (hcl 7 6 (by kernel_rfl) (hcl 6 4 (by kernel_rfl) (hcl 4 3 (by kernel_rfl) hLi)))))
   have hB:=J.b hN
   go_simp
   exact hK _ _ ⟨_,_,_,_,_,_,_,_,_,_,_,_,_,_,_,rfl,⟨(fun h=>J.f0 (un h)),(fun h=>J.f1 (un h)),(fun h=>J.f2 (un h)),(fun _=>rfl),(fun h=>absurd (((hcl 4 3 (by kernel_rfl) hLi)).symm.trans (un h)) (by simp)),(fun h=>J.f5 (un h)),(fun h=>absurd (((hcl 6 4 (by kernel_rfl) (hcl 4 3 (by kernel_rfl) hLi))).symm.trans (un h)) (by simp)),(fun h=>absurd (((hcl 7 6 (by kernel_rfl) (hcl 6 4 (by kernel_rfl) (hcl 4 3 (by kernel_rfl) hLi)))).symm.trans (un h)) (by simp)),(fun h=>absurd (((hcl 8 7 (by kernel_rfl) (hcl 7 6 (by kernel_rfl) (hcl 6 4 (by kernel_rfl) (hcl 4 3 (by kernel_rfl) hLi))))).symm.trans (un h)) (by simp)),(fun h=>J.f9 (un h)),(fun h=>J.f10 (un h)),(fun h=>J.f11 (un h)),(fun h _=>absurd (((hcl 12 8 (by kernel_rfl) (hcl 8 7 (by kernel_rfl) (hcl 7 6 (by kernel_rfl) (hcl 6 4 (by kernel_rfl) (hcl 4 3 (by kernel_rfl) hLi)))))).symm.trans (un h)) (by simp)),(fun h=>J.f13 (un h)),(fun h=>J.f14 (un h)),(fun h=>absurd (((hcl 15 12 (by kernel_rfl) (hcl 12 8 (by kernel_rfl) (hcl 8 7 (by kernel_rfl) (hcl 7 6 (by kernel_rfl) (hcl 6 4 (by kernel_rfl) (hcl 4 3 (by kernel_rfl) hLi))))))).symm.trans (un h)) (by simp)),(fun _=>hB),J.gr⟩⟩
  ·skip
   have hN:=(hcl 12 8 (by kernel_rfl) (hcl 8 7 (by kernel_rfl) (hcl 7 6 (by kernel_rfl) (hcl 6 4 (by kernel_rfl) hLi))))
   have hB:=J.b hN
   obtain rfl:=J.f3 (haft ⟨3,.data⟩ (by simp) rfl)
   have hGr:=J.gr ((hcl 15 12 (by kernel_rfl) (hcl 12 8 (by kernel_rfl) (hcl 8 7 (by kernel_rfl) (hcl 7 6 (by kernel_rfl) (hcl 6 4 (by kernel_rfl) hLi))))))
   have hbk:=(hGr.block _ (Array.getElem?_eq_some_iff.1 HX.out).1 (fun e=>hxh (Option.some.inj e))).trans HX.out
   obtain ⟨q0,q1,q2,q3,q4⟩:=fiveO hbk
   go_simp
   exact hK _ _ ⟨_,_,_,_,_,_,_,_,_,_,_,_,_,_,_,rfl,⟨(fun h=>J.f0 (un h)),(fun h=>J.f1 (un h)),(fun h=>J.f2 (un h)),(fun h=>J.f3 (un h)),(fun _=>rfl),(fun h=>J.f5 (un h)),(fun h=>absurd (((hcl 6 4 (by kernel_rfl) hLi)).symm.trans (un h)) (by simp)),(fun h=>absurd (((hcl 7 6 (by kernel_rfl) (hcl 6 4 (by kernel_rfl) hLi))).symm.trans (un h)) (by simp)),(fun h=>absurd (((hcl 8 7 (by kernel_rfl) (hcl 7 6 (by kernel_rfl) (hcl 6 4 (by kernel_rfl) hLi)))).symm.trans (un h)) (by simp)),(fun h=>J.f9 (un h)),(fun h=>J.f10 (un h)),(fun h=>J.f11 (un h)),(fun h _=>absurd (((hcl 12 8 (by kernel_rfl) (hcl 8 7 (by kernel_rfl) (hcl 7 6 (by kernel_rfl) (hcl 6 4 (by kernel_rfl) hLi))))).symm.trans (un h)) (by simp)),(fun h=>J.f13 (un h)),(fun h=>J.f14 (un h)),(fun h=>absurd (((hcl 15 12 (by kernel_rfl) (hcl 12 8 (by kernel_rfl) (hcl 8 7 (by kernel_rfl) (hcl 7 6 (by kernel_rfl) (hcl 6 4 (by kernel_rfl) hLi)))))).symm.trans (un h)) (by simp)),(fun _=>hB),J.gr⟩⟩
  ·skip
   have hN:=(hcl 12 8 (by kernel_rfl) (hcl 8 7 (by kernel_rfl) (hcl 7 6 (by kernel_rfl) (hcl 6 5 (by kernel_rfl) hLi))))
   have hB:=J.b hN
   have hGr:=J.gr ((hcl 15 12 (by kernel_rfl) (hcl 12 8 (by kernel_rfl) (hcl 8 7 (by kernel_rfl) (hcl 7 6 (by kernel_rfl) (hcl 6 5 (by kernel_rfl) hLi))))))
   have hbk:=(hGr.block _ (Array.getElem?_eq_some_iff.1 HRb.out).1 (fun e=>hrh (Option.some.inj e))).trans HRb.out
   have q0:=cellB (p:=0) hbk
   go_simp
   exact hK _ _ ⟨_,_,_,_,_,_,_,_,_,_,_,_,_,_,_,rfl,⟨(fun h=>J.f0 (un h)),(fun h=>J.f1 (un h)),(fun h=>J.f2 (un h)),(fun h=>J.f3 (un h)),(fun h=>J.f4 (un h)),(fun _=>rfl),(fun h=>absurd (((hcl 6 5 (by kernel_rfl) hLi)).symm.trans (un h)) (by simp)),(fun h=>absurd (((hcl 7 6 (by kernel_rfl) (hcl 6 5 (by kernel_rfl) hLi))).symm.trans (un h)) (by simp)),(fun h=>absurd (((hcl 8 7 (by kernel_rfl) (hcl 7 6 (by kernel_rfl) (hcl 6 5 (by kernel_rfl) hLi)))).symm.trans (un h)) (by simp)),(fun h=>J.f9 (un h)),(fun h=>J.f10 (un h)),(fun h=>J.f11 (un h)),(fun h _=>absurd (((hcl 12 8 (by kernel_rfl) (hcl 8 7 (by kernel_rfl) (hcl 7 6 (by kernel_rfl) (hcl 6 5 (by kernel_rfl) hLi))))).symm.trans (un h)) (by simp)),(fun h=>J.f13 (un h)),(fun h=>J.f14 (un h)),(fun h=>absurd (((hcl 15 12 (by kernel_rfl) (hcl 12 8 (by kernel_rfl) (hcl 8 7 (by kernel_rfl) (hcl 7 6 (by kernel_rfl) (hcl 6 5 (by kernel_rfl) hLi)))))).symm.trans (un h)) (by simp)),(fun _=>hB),J.gr⟩⟩
  ·skip
   have hN:=(hcl 12 8 (by kernel_rfl) (hcl 8 7 (by kernel_rfl) (hcl 7 6 (by kernel_rfl) hLi)))
   have hB:=J.b hN
   obtain rfl:=J.f4 (haft ⟨4,.data⟩ (by simp) rfl)
   obtain rfl:=J.f5 (haft ⟨5,.data⟩ (by simp) rfl)
   go_simp
   exact hK _ _ ⟨_,_,_,_,_,_,_,_,_,_,_,_,_,_,_,rfl,⟨(fun h=>J.f0 (un h)),(fun h=>J.f1 (un h)),(fun h=>J.f2 (un h)),(fun h=>J.f3 (un h)),(fun h=>J.f4 (un h)),(fun h=>J.f5 (un h)),(fun _=>rfl),(fun h=>absurd (((hcl 7 6 (by kernel_rfl) hLi)).symm.trans (un h)) (by simp)),(fun h=>absurd (((hcl 8 7 (by kernel_rfl) (hcl 7 6 (by kernel_rfl) hLi))).symm.trans (un h)) (by simp)),(fun h=>J.f9 (un h)),(fun h=>J.f10 (un h)),(fun h=>J.f11 (un h)),(fun h _=>absurd (((hcl 12 8 (by kernel_rfl) (hcl 8 7 (by kernel_rfl) (hcl 7 6 (by kernel_rfl) hLi)))).symm.trans (un h)) (by simp)),(fun h=>J.f13 (un h)),(fun h=>J.f14 (un h)),(fun h=>absurd (((hcl 15 12 (by kernel_rfl) (hcl 12 8 (by kernel_rfl) (hcl 8 7 (by kernel_rfl) (hcl 7 6 (by kernel_rfl) hLi))))).symm.trans (un h)) (by simp)),(fun _=>hB),J.gr⟩⟩
  ·skip
   have hN:=(hcl 12 8 (by kernel_rfl) (hcl 8 7 (by kernel_rfl) hLi))
   have hB:=J.b hN
   obtain rfl:=J.f6 (haft ⟨6,.data⟩ (by simp) rfl)
   go_simp
   exact hK _ _ ⟨_,_,_,_,_,_,_,_,_,_,_,_,_,_,_,rfl,⟨(fun h=>J.f0 (un h)),(fun h=>J.f1 (un h)),(fun h=>J.f2 (un h)),(fun h=>J.f3 (un h)),(fun h=>J.f4 (un h)),(fun h=>J.f5 (un h)),(fun h=>J.f6 (un h)),(fun _=>rfl),(fun h=>absurd (((hcl 8 7 (by kernel_rfl) hLi)).symm.trans (un h)) (by simp)),(fun h=>J.f9 (un h)),(fun h=>J.f10 (un h)),(fun h=>J.f11 (un h)),(fun h _=>absurd (((hcl 12 8 (by kernel_rfl) (hcl 8 7 (by kernel_rfl) hLi))).symm.trans (un h)) (by simp)),(fun h=>J.f13 (un h)),(fun h=>J.f14 (un h)),(fun h=>absurd (((hcl 15 12 (by kernel_rfl) (hcl 12 8 (by kernel_rfl) (hcl 8 7 (by kernel_rfl) hLi)))).symm.trans (un h)) (by simp)),(fun _=>hB),J.gr⟩⟩
  ·skip
   have hN:=(hcl 12 8 (by kernel_rfl) hLi)
   have hB:=J.b hN
   obtain rfl:=J.f7 (haft ⟨7,.data⟩ (by simp) rfl)
   have hGr:=J.gr ((hcl 15 12 (by kernel_rfl) (hcl 12 8 (by kernel_rfl) hLi)))
   have q0:=(cellB (p:=r * 2) ((hGr.block _ (Array.getElem?_eq_some_iff.1 HG.out).1 (fun e=>hgh (Option.some.inj e))).trans HG.out)).trans HQ.out
   go_simp
   exact hK _ _ ⟨_,_,_,_,_,_,_,_,_,_,_,_,_,_,_,rfl,⟨(fun h=>J.f0 (un h)),(fun h=>J.f1 (un h)),(fun h=>J.f2 (un h)),(fun h=>J.f3 (un h)),(fun h=>J.f4 (un h)),(fun h=>J.f5 (un h)),(fun h=>J.f6 (un h)),(fun h=>J.f7 (un h)),(fun _=>rfl),(fun h=>J.f9 (un h)),(fun h=>J.f10 (un h)),(fun h=>J.f11 (un h)),(fun h _=>absurd (((hcl 12 8 (by kernel_rfl) hLi)).symm.trans (un h)) (by simp)),(fun h=>J.f13 (un h)),(fun h=>J.f14 (un h)),(fun h=>absurd (((hcl 15 12 (by kernel_rfl) (hcl 12 8 (by kernel_rfl) hLi))).symm.trans (un h)) (by simp)),(fun _=>hB),J.gr⟩⟩
  ·skip
   have hN:=(hcl 12 9 (by kernel_rfl) hLi)
   have hB:=J.b hN
   have hGr:=J.gr ((hcl 15 12 (by kernel_rfl) (hcl 12 9 (by kernel_rfl) hLi)))
   have hbk:=(hGr.block _ (Array.getElem?_eq_some_iff.1 HAb.out).1 (fun e=>hah (Option.some.inj e))).trans HAb.out
   have q0:=cellB (p:=0) hbk
   go_simp
   exact hK _ _ ⟨_,_,_,_,_,_,_,_,_,_,_,_,_,_,_,rfl,⟨(fun h=>J.f0 (un h)),(fun h=>J.f1 (un h)),(fun h=>J.f2 (un h)),(fun h=>J.f3 (un h)),(fun h=>J.f4 (un h)),(fun h=>J.f5 (un h)),(fun h=>J.f6 (un h)),(fun h=>J.f7 (un h)),(fun h=>J.f8 (un h)),(fun _=>rfl),(fun h=>J.f10 (un h)),(fun h=>J.f11 (un h)),(fun h _=>absurd (((hcl 12 9 (by kernel_rfl) hLi)).symm.trans (un h)) (by simp)),(fun h=>J.f13 (un h)),(fun h=>J.f14 (un h)),(fun h=>absurd (((hcl 15 12 (by kernel_rfl) (hcl 12 9 (by kernel_rfl) hLi))).symm.trans (un h)) (by simp)),(fun _=>hB),J.gr⟩⟩
  ·skip
   have hN:=(hcl 12 11 (by kernel_rfl) (hcl 11 10 (by kernel_rfl) hLi))
   have hB:=J.b hN
   have hGr:=J.gr ((hcl 15 12 (by kernel_rfl) (hcl 12 11 (by kernel_rfl) (hcl 11 10 (by kernel_rfl) hLi))))
   have hbk:=(hGr.block _ (Array.getElem?_eq_some_iff.1 HAb.out).1 (fun e=>hah (Option.some.inj e))).trans HAb.out
   have q0:=cellB (p:=0) hbk
   go_simp
   exact hK _ _ ⟨_,_,_,_,_,_,_,_,_,_,_,_,_,_,_,rfl,⟨(fun h=>J.f0 (un h)),(fun h=>J.f1 (un h)),(fun h=>J.f2 (un h)),(fun h=>J.f3 (un h)),(fun h=>J.f4 (un h)),(fun h=>J.f5 (un h)),(fun h=>J.f6 (un h)),(fun h=>J.f7 (un h)),(fun h=>J.f8 (un h)),(fun h=>J.f9 (un h)),(fun _=>rfl),(fun h=>absurd (((hcl 11 10 (by kernel_rfl) hLi)).symm.trans (un h)) (by simp)),(fun h _=>absurd (((hcl 12 11 (by kernel_rfl) (hcl 11 10 (by kernel_rfl) hLi))).symm.trans (un h)) (by simp)),(fun h=>J.f13 (un h)),(fun h=>J.f14 (un h)),(fun h=>absurd (((hcl 15 12 (by kernel_rfl) (hcl 12 11 (by kernel_rfl) (hcl 11 10 (by kernel_rfl) hLi)))).symm.trans (un h)) (by simp)),(fun _=>hB),J.gr⟩⟩
  ·skip
   have hN:=(hcl 12 11 (by kernel_rfl) hLi)
   have hB:=J.b hN
   obtain rfl:=J.f10 (haft ⟨10,.data⟩ (by simp) rfl)
   go_simp
   exact hK _ _ ⟨_,_,_,_,_,_,_,_,_,_,_,_,_,_,_,rfl,⟨(fun h=>J.f0 (un h)),(fun h=>J.f1 (un h)),(fun h=>J.f2 (un h)),(fun h=>J.f3 (un h)),(fun h=>J.f4 (un h)),(fun h=>J.f5 (un h)),(fun h=>J.f6 (un h)),(fun h=>J.f7 (un h)),(fun h=>J.f8 (un h)),(fun h=>J.f9 (un h)),(fun h=>J.f10 (un h)),(fun _=>by first | rfl | rw [HWr.out]),(fun h _=>absurd (((hcl 12 11 (by kernel_rfl) hLi)).symm.trans (un h)) (by simp)),(fun h=>J.f13 (un h)),(fun h=>J.f14 (un h)),(fun h=>absurd (((hcl 15 12 (by kernel_rfl) (hcl 12 11 (by kernel_rfl) hLi))).symm.trans (un h)) (by simp)),(fun _=>hB),J.gr⟩⟩
  ·skip
   have hN:=hLi
   have hB:=J.b hN
   obtain rfl:=J.f8 (haft ⟨8,.data⟩ (by simp) rfl)
   obtain rfl:=J.f9 (haft ⟨9,.data⟩ (by simp) rfl)
   obtain rfl:=J.f11 (haft ⟨11,.data⟩ (by simp) rfl)
   go_simp
   go_wp2_with (go_at_call 58;refine (KD.out W hB).mono ?_;rintro e W2 ⟨rfl,hE,hG⟩)
   exact ⟨_,_,_,_,_,_,_,_,_,_,_,_,_,_,_,rfl,⟨(fun h=>J.f0 (un h)),(fun h=>J.f1 (un h)),(fun h=>J.f2 (un h)),(fun h=>J.f3 (un h)),(fun h=>J.f4 (un h)),(fun h=>J.f5 (un h)),(fun h=>J.f6 (un h)),(fun h=>J.f7 (un h)),(fun h=>J.f8 (un h)),(fun h=>J.f9 (un h)),(fun h=>J.f10 (un h)),(fun h=>J.f11 (un h)),(fun _ _=>⟨rfl,hE⟩),(fun h=>J.f13 (un h)),(fun h=>J.f14 (un h)),(fun h=>absurd (((hcl 15 12 (by kernel_rfl) hLi)).symm.trans (un h)) (by simp)),(fun h=>absurd (h.symm.trans upd_self) (by simp)),(fun _=>grown_trans (J.gr (hcl 15 12 (by kernel_rfl) hLi)) hG)⟩⟩
  ·skip
   obtain rfl:=J.f1 (haft ⟨1,.data⟩ (by simp) rfl)
   obtain rfl:=J.f2 (haft ⟨2,.data⟩ (by simp) rfl)
   go_simp
   exact hK _ _ ⟨_,_,_,_,_,_,_,_,_,_,_,_,_,_,_,rfl,⟨(fun h=>J.f0 (un h)),(fun h=>J.f1 (un h)),(fun h=>J.f2 (un h)),(fun h=>J.f3 (un h)),(fun h=>J.f4 (un h)),(fun h=>J.f5 (un h)),(fun h=>J.f6 (un h)),(fun h=>J.f7 (un h)),(fun h=>J.f8 (un h)),(fun h=>J.f9 (un h)),(fun h=>J.f10 (un h)),(fun h=>J.f11 (un h)),(fun h h2=>(J.f12 (un h) (un h2))),(fun _=>rfl),(fun h=>absurd (((hcl 14 13 (by kernel_rfl) hLi)).symm.trans (un h)) (by simp)),(fun h=>absurd (((hcl 15 14 (by kernel_rfl) (hcl 14 13 (by kernel_rfl) hLi))).symm.trans (un h)) (by simp)),(fun h=>J.b (un h)),J.gr⟩⟩
  ·skip
   obtain rfl:=J.f13 (haft ⟨13,.data⟩ (by simp) rfl)
   go_simp
   exact hK _ _ ⟨_,_,_,_,_,_,_,_,_,_,_,_,_,_,_,rfl,⟨(fun h=>J.f0 (un h)),(fun h=>J.f1 (un h)),(fun h=>J.f2 (un h)),(fun h=>J.f3 (un h)),(fun h=>J.f4 (un h)),(fun h=>J.f5 (un h)),(fun h=>J.f6 (un h)),(fun h=>J.f7 (un h)),(fun h=>J.f8 (un h)),(fun h=>J.f9 (un h)),(fun h=>J.f10 (un h)),(fun h=>J.f11 (un h)),(fun h h2=>(J.f12 (un h) (un h2))),(fun h=>J.f13 (un h)),(fun _=>rfl),(fun h=>absurd (((hcl 15 14 (by kernel_rfl) hLi)).symm.trans (un h)) (by simp)),(fun h=>J.b (un h)),J.gr⟩⟩
  ·skip
   have h12:L 12=true:=(haft ⟨12,.data⟩ (by simp) rfl)
   obtain ⟨rfl,hC⟩:=J.f12 h12 hLi
   obtain rfl:=J.f14 (haft ⟨14,.data⟩ (by simp) rfl)
   have hGr:=J.gr hLi
   have hbk:=(hGr.block _ (Array.getElem?_eq_some_iff.1 HG.out).1 (fun e=>hgh (Option.some.inj e))).trans HG.out
   obtain ⟨y0,hy0⟩:=someB (p:=r * 2) hbk (Array.getElem?_eq_some_iff.1 HQ.out).1
   have fz:=freeB (p:=r * 2) hbk
   go_simp
   exact hK _ _ ⟨_,_,_,_,_,_,_,_,_,_,_,_,_,_,_,rfl,⟨(fun h=>J.f0 (un h)),(fun h=>J.f1 (un h)),(fun h=>J.f2 (un h)),(fun h=>J.f3 (un h)),(fun h=>J.f4 (un h)),(fun h=>J.f5 (un h)),(fun h=>J.f6 (un h)),(fun h=>J.f7 (un h)),(fun h=>J.f8 (un h)),(fun h=>J.f9 (un h)),(fun h=>J.f10 (un h)),(fun h=>J.f11 (un h)),(fun _ h=>absurd (h.symm.trans upd_self) (by simp)),(fun h=>J.f13 (un h)),(fun h=>J.f14 (un h)),(fun _=>⟨W,hGr,hC,rfl⟩),(fun h=>absurd ((un h).symm.trans h12) (by simp)),(fun h=>absurd (h.symm.trans upd_self) (by simp))⟩⟩
end Go.Proofs.Ytggmjiddadjilaj
namespace Go.Proofs.Ytggmjiddadjilaj
open Go.RowKit

set_option maxRecDepth 100000 in
set_option maxHeartbeats 2000000 in
theorem behindTake_no (xb:Nat) (p0 p1 p2:Value) (a0 a3:Option Addr) (n0 c0 n3 c3:Nat) (i1 i2 i4:Int) (w:World) (hx:w.heap[xb]?=some (.cells #[.slice a0 n0 c0,.int .i64 i1,.int .i64 i2,.slice a3 n3 c3,.int .i64 i4] 37)) :
  Calls Try.prog 49 #[.pointer (some ⟨xb,0,none⟩),.bool false,.func (.func 57) #[] #[p0,p1,p2]] w fun e w'=>e=.returned (.tuple #[.agg #[.slice a0 n0 c0,.int .i64 i1,.int .i64 i2,.slice a3 n3 c3,.int .i64 i4],.bool false])∧Below w.heap.size w w':=by
 have hX:=(Below.heap_alloc w (.cells #[.slice none 0 0,.int .i64 0,.int .i64 0,.slice none 0 0,.int .i64 0] 37) xb (Array.getElem?_eq_some_iff.1 hx).1).trans hx
 have hZ:=newestB w (.cells #[.slice none 0 0,.int .i64 0,.int .i64 0,.slice none 0 0,.int .i64 0] 37)
 have HK:=Hid.intro (k_alloc (Below.refl w.heap.size w) (.cells #[.slice none 0 0,.int .i64 0,.int .i64 0,.slice none 0 0,.int .i64 0] 37))
 have HX:=Hid.intro hX
 have HZ:=Hid.intro hZ
 clear hx hX hZ
 go_enter Try.func49,Try.ntmps49
 go_upto_region 1 with fail
 generalize w.alloc (.cells #[.slice none 0 0,.int .i64 0,.int .i64 0,.slice none 0 0,.int .i64 0] 37)=W0 at HK HX HZ ⊢
 obtain ⟨z0,z1,z2,z3,z4⟩:=fiveO HX.out
 obtain ⟨d0,d1,d2,d3,d4⟩:=fiveO HZ.out
 have fz:∀ p,W0.frozen? ⟨w.heap.size,p,none⟩=false:=fun p=>freeB HZ.out
 go_wp2
 exact bodyPost_ret (v:=.tuple #[.agg #[.slice a0 n0 c0,.int .i64 i1,.int .i64 i2,.slice a3 n3 c3,.int .i64 i4],.bool false]) (by simp [results,Try.results49,go_sem,d0,d1,d2,d3,d4]) rfl ⟨rfl,k_set (k_set (k_set (k_set (k_set HK.out (Nat.le_refl _) _) (Nat.le_refl _) _) (Nat.le_refl _) _) (Nat.le_refl _) _) (Nat.le_refl _) _⟩
set_option maxRecDepth 100000 in
set_option maxHeartbeats 2000000 in
theorem behindTake_yes (xb:Nat) (p0 p1 p2:Value) (a0 a3:Option Addr) (n0 c0 n3 c3:Nat) (i1 i2 i4:Int) (w:World) (P:World→Prop) (hP:∀ W W',P W→(∀ k,k ≠ w.heap.size→W'.heap[k]?=W.heap[k]?)→W'.heap.size=W.heap.size→W'.os=W.os→W'.tape=W.tape→W'.output=W.output→P W')
  (hcl:Calls Try.prog 57 #[p0,p1,p2] (w.alloc (.cells #[.slice none 0 0,.int .i64 0,.int .i64 0,.slice none 0 0,.int .i64 0] 37)) fun e w'=>e=.returned (.tuple #[])∧P w'∧w'.heap[xb]?=some (.cells #[.slice a0 n0 c0,.int .i64 i1,.int .i64 i2,.slice a3 n3 c3,.int .i64 i4] 37)∧w'.heap[w.heap.size]?=some (.cells #[.slice none 0 0,.int .i64 0,.int .i64 0,.slice none 0 0,.int .i64 0] 37)) :
  Calls Try.prog 49 #[.pointer (some ⟨xb,0,none⟩),.bool true,.func (.func 57) #[] #[p0,p1,p2]] w fun e w'=>e=.returned (.tuple #[.agg #[.slice a0 n0 c0,.int .i64 i1,.int .i64 i2,.slice a3 n3 c3,.int .i64 i4],.bool true])∧P w':=by
 have HC:=Hid.intro hcl
 have HP:=Hid.intro hP
 clear hcl hP
 go_enter Try.func49,Try.ntmps49
 go_upto_region 1 with fail
 generalize w.alloc (.cells #[.slice none 0 0,.int .i64 0,.int .i64 0,.slice none 0 0,.int .i64 0] 37)=W0 at HC ⊢
 go_wp2_with (go_at_call 57;refine HC.out.mono ?_;rintro e w1 ⟨rfl,hP1,hX1,hZ1⟩;have HP1:=Hid.intro hP1;have HX1:=Hid.intro hX1;have HZ1:=Hid.intro hZ1;obtain ⟨z0,z1,z2,z3,z4⟩:=fiveO hX1;obtain ⟨d0,d1,d2,d3,d4⟩:=fiveO hZ1;have fz:∀ p,w1.frozen? ⟨w.heap.size,p,none⟩=false:=fun p=>freeB hZ1;clear hP1 hX1 hZ1)
 exact bodyPost_ret (v:=.tuple #[.agg #[.slice a0 n0 c0,.int .i64 i1,.int .i64 i2,.slice a3 n3 c3,.int .i64 i4],.bool true]) (by simp [results,Try.results49,go_sem,d0,d1,d2,d3,d4]) rfl ⟨rfl,HP.out _ _ HP1.out (fun k hk=>by iterate 5 rw [Below.heap_setCell _ _ _ _ (by dsimp only;exact hk)]) (by iterate 5 rw [sizeSet]) rfl rfl rfl⟩
end Go.Proofs.Ytggmjiddadjilaj
