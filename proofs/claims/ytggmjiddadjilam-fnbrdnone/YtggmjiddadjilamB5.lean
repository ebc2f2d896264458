/-
  PROVED HERE: what the program's take does: each of a cell's slots is in the map once more; nothing else that was in memory is turned.
-/
import Derived.Test.YtggmjiddadjilamB4
import Derived.Test.YtggmjiddadjilamB2
set_option maxRecDepth 1000000
set_option maxHeartbeats 40000000
namespace Go.Proofs.Ytggmjiddadjilam
open Go.RowKit Go.Shelf
attribute [local go_sem] Oper.semAt_some
theorem z2A {β:Type} {B:Nat} {w:World} {row:Option Nat} (hB:w.heap.size≤B):OwnFrom B (fun (_:β) W=>w.grownBy W row):=fun _ X Y row' hs hg hr =>
 ⟨hg.os.trans hs.os,hg.tape.trans hs.tape,hg.output.trans hs.output,Nat.le_trans hs.size hg.size,fun k hk hne=>(hg.block k (Nat.lt_of_lt_of_le hk hs.size) (fun e=>by have:=(hr k e.symm).1;omega)).trans (hs.block k hk hne)⟩
theorem z6F {β:Type} {B b:Nat} (hb:b < B) (f:β→List (Nat × Nat)):OwnFrom B (fun s W=>zA W b (f s)):=fun _ X Y row hs hg hr =>
 hs.of_block (hg.block b hs.lt (fun e=>by have:=(hr b e.symm).1;omega))
theorem z45 {W W':World} {B k:Nat} (m:W.mapTurned W' B) (hne:k ≠ B):W'.heap[k]?=W.heap[k]?:=by
 obtain ⟨es,clock,es',clock',hb,rfl⟩:=m;exact ChangeMaps.heap_setBlock_other hb _ hne
theorem z67 (r c rs cs:Nat) (i:Int) (hr:r+rs≤1000) (hc:c+cs≤1000) (w:World) (B:Nat) (L:List (Nat × Nat)) (hT:zA w B L) (hL:L.length+(z01 r c cs rs).length < 1000000) :
  Calls Try.prog 96 #[.map (some B),gcV r c rs cs i] w fun e w'=>(∃ v,e=.returned v)∧zA w' B (L ++ (z01 r c cs rs).map (·.1))∧w.grownBy w' (some B):=by
 have hlt:=hT.lt;refine (callsIn_wide (n:=4)).1 ?_;unfold gcV;refine callsIn_of_wp_marks Try.func96 rfl trivial ?_ rfl;simp only [Try.ntmps96,List.size_toArray,List.length_cons,List.length_nil,Nat.reduceAdd,Nat.reduceSub,Array.replicate_succ,Array.replicate_zero,List.push_toArray,List.append_toArray,List.nil_append,List.cons_append]
 gi_wp2_with (refine ⟨trivial,?_⟩;gi_at_call 107;refine (callsIn_wide.2 (z2Q r c rs cs i _)).mono ?_;rintro e w' ⟨rfl,rfl⟩)
 obtain ⟨W0,hW0⟩:∃ W0,(((w.alloc (.cells #[.map (some B)] 136)).alloc (.cells #[.int .i64 r,.int .i64 c,.int .i64 rs,.int .i64 cs,.int .i64 i] 115)).alloc (z0W r c rs cs i))=W0:=⟨_,rfl⟩;have hsz:W0.heap.size=w.heap.size+3:=(by rw [← hW0];simp)
 have hB0:w.grownBy W0 (some B):=by
  have h1:=World.grownBy_alloc w (.cells #[.map (some B)] 136) none;have h2:=World.grownBy_alloc (w.alloc (.cells #[.map (some B)] 136)) (.cells #[.int .i64 r,.int .i64 c,.int .i64 rs,.int .i64 cs,.int .i64 i] 115) none;have h3:=World.grownBy_alloc ((w.alloc (.cells #[.map (some B)] 136)).alloc (.cells #[.int .i64 r,.int .i64 c,.int .i64 rs,.int .i64 cs,.int .i64 i] 115)) (z0W r c rs cs i) none;rw [hW0] at h3;exact ((h1.trans h2).trans h3).but _
 have hx0:Boxed W0 w.heap.size 136 (.map (some B)):=by
  rw [← hW0];exact ((Boxed.new w _ _).alloc _).alloc _
 have hx3:W0.heap[w.heap.size+2]?=some (z0W r c rs cs i):=by
  have:=World.alloc_heap_new ((w.alloc (.cells #[.map (some B)] 136)).alloc (.cells #[.int .i64 r,.int .i64 c,.int .i64 rs,.int .i64 cs,.int .i64 i] 115)) (z0W r c rs cs i);rw [hW0] at this
  simpa using this
 have hT0:zA W0 B L:=by
  refine hT.of_block ?_;rw [← hW0,Below.heap_alloc _ _ _ (by simp;omega),Below.heap_alloc _ _ _ (by simp;omega),Below.heap_alloc _ _ _ hlt]
 rw [hW0];clear hW0
 refine wpIn_rangeFunc_ownH rfl (by omega) (gf:=114) (lb:=#[.pointer (some ⟨w.heap.size+2,0,none⟩)]) rfl trivial (enters_of Try.func114 (by kernel_rfl) rfl)
  (z2P (w.heap.size+2) r c rs cs i hr hc W0 (by omega) hx3) (fun h k=>z2a.trans h k) (z5q (by omega)) (Below.refl _ _) (fun _=>rfl)
  (fun pre W=>Boxed W w.heap.size 136 (.map (some B))∧zA W B (L ++ pre.map (·.1))∧w.grownBy W (some B)∧w.heap.size+3≤W.heap.size)
  (fun _ _ _=>False)
  (OwnFrom.and (Own.from (z2n _ _ _) _) (OwnFrom.and (z6F (by omega) (fun pre:List Sl=>L ++ pre.map (·.1))) (OwnFrom.and (z2A (by omega)) (z44 _ _))))
  (fun _ _ _ _ _ hs _ _=>hs)
  ⟨hx0,by simpa using hT0,hB0,by omega⟩
  (fun x a' W=>∃ Bx,w.heap.size+3≤Bx∧W.heap[Bx]?=some (.cells #[.int .i64 x.1.1,.int .i64 x.1.2] 156) ∧
   a'={ tmps:=#[.map (some B),gcV r c rs cs i,.pointer (some ⟨w.heap.size,0,none⟩),.pointer (some ⟨w.heap.size+1,0,none⟩),.pointer (some ⟨Bx,0,none⟩),gcV r c rs cs i,.func (.func 114) #[] #[.pointer (some ⟨w.heap.size+1+1,0,none⟩)],slV x.1,undef,undef,undef,undef,undef,undef],defers:=[] })
  (fun x a' _ A B row hs hg hr=>by
   obtain ⟨Bx,h1,h2,h3⟩:=hs;exact ⟨Bx,h1,z4M Bx (fun _:Unit=>.cells #[.int .i64 x.1.1,.int .i64 x.1.2] 156) (fun _=>rfl) () A B row h2 hg (fun r e=>(hr r e).2),h3⟩)
  ?assign ?body ?done ?stop
 case assign =>
  rintro l pre x W K ⟨hb1,hT1,hB,hs4⟩ hK;dsimp only [slV]
  gi_wp2
  refine hK _ _ ((KeepsOthers.alloc _ _).from _) ?_ ⟨hb1.alloc _,hT1.of_block (Below.heap_alloc _ _ _ hT1.lt),z2A (β:=Unit) (Nat.le_refl _) () _ _ none hB (World.grownBy_alloc _ _ none) (fun r e=>by cases e),by simp;omega⟩ ⟨W.heap.size,hs4,World.alloc_heap_new _ _,rfl⟩;show (W.alloc _).heap[w.heap.size+2]?=_;exact Below.heap_alloc _ _ _ (by omega)
 case body =>
  rintro l pre x a' W hl ⟨q,hq⟩ ⟨hb1,hT1,hB,hs4⟩ ⟨Bx,h1,h2,rfl⟩ hpl;have hlen:(L ++ pre.map (·.1)).length < 1000000:=(by simp;omega);have e0:=(show zA W.drew B _ from hT1).look x;obtain ⟨v0,st,w1,w2,e1,e2,m1,e3,hT2,m2⟩:=(show zA W.drew B _ from hT1).step x hlen;have hcl:=List.count_le_length (a:=x.1) (l:=L ++ pre.map (·.1));have hcnt:(List.count x.1 (L ++ pre.map (·.1))) < 1000000:=(by omega);generalize (List.count x.1 (L ++ pre.map (·.1)))=cn at *;have hBx:Bx ≠ B:=(by omega);have hn0:w.heap.size ≠ B:=(by omega);have c1:W.drew.cell? ⟨w.heap.size,0,none⟩=some (.map (some B)):=hb1.cell
  have d0:W.drew.cell? ⟨Bx,0,none⟩=some (.int .i64 x.1.1):=by
   have h:W.drew.heap[Bx]?=_:=h2;simp [World.cell?,h]
  have d1:W.drew.cell? ⟨Bx,1,none⟩=some (.int .i64 x.1.2):=by
   have h:W.drew.heap[Bx]?=_:=h2;simp [World.cell?,h]
  have HE:=Hd (show KeepsFrom W0.heap.size W w2∧z2a (w.heap.size+2) W w2∧(Boxed w2 w.heap.size 136 (.map (some B))∧zA w2 B (L ++ (pre ++ [x]).map (·.1))∧w.grownBy w2 (some B)∧w.heap.size+3≤w2.heap.size) from by
   have hg:W.grownBy w2 (some B):=⟨m2.grown.os,m2.grown.tape,m2.grown.output,m2.grown.size,m2.grown.block⟩;refine ⟨KeepsFrom.of_grownBy hg (fun j e=>by cases e;omega),?_,hb1.kept hg (by simp;omega),by simpa using hT2,?_,Nat.le_trans hs4 hg.size⟩
   ·exact z45 (W:=W.drew) m2 (by omega)
   ·exact ⟨hg.os.trans hB.os,hg.tape.trans hB.tape,hg.output.trans hB.output,Nat.le_trans hB.size hg.size,fun k hk hne=>(hg.block k (Nat.lt_of_lt_of_le hk hB.size) hne).trans (hB.block k hk hne)⟩)
  have hmx:Try.prog.follows .mixedOrders=true:=(by kernel_rfl);unfold slV at e0 e1 e2;simp only [goInt] at e1 e3;have hwr:IntKind.i64.wrap ((cn:Int)+1)=(cn:Int)+1:=(by rw [IntKind.wrap_i64];omega);rw [← hwr] at e3;clear hT2 m1 m2 hB hT1 hb1 h2 hcl hq hwr
  gi_wp2
  refine wpIn_region_any hmx ?_;change wpAnyIn _ _ _ _ _ _ _ _ _ (World.drew _);refine wpAnyIn_ready (rs:=[0,1]) (by kernel_rfl) (by simp) (AllReadyIn.cons rfl (fun K hK=>?_) (AllReadyIn.cons rfl (fun K hK=>?_) (fun _ hj=>by cases hj)))
  ·go_simp;refine hK _ _ ?_;clear hK K;refine zP (i:=1) (by kernel_rfl) rfl (fun K hK=>?_);go_simp;refine hK _ _ ?_;clear hK K;refine wpAnyIn_ready (rs:=[2,4]) (by kernel_rfl) (by simp) (AllReadyIn.cons rfl (fun K hK=>?_) (AllReadyIn.cons rfl (fun K hK=>?_) (fun _ hj=>by cases hj)))
   ·go_simp;refine hK _ _ ?_;clear hK K;refine wpAnyIn_ready (rs:=[3,4]) (by kernel_rfl) (by simp) (AllReadyIn.cons rfl (fun K hK=>?_) (AllReadyIn.cons rfl (fun K hK=>?_) (fun _ hj=>by cases hj)))
    ·go_simp;refine hK _ _ ?_;clear hK K;refine zP (i:=4) (by kernel_rfl) rfl (fun K hK=>?_);go_simp;refine hK _ _ ?_;clear hK K;refine zP (i:=5) (by kernel_rfl) rfl (fun K hK=>?_);go_simp;refine hK _ _ ?_;clear hK K;refine zP (i:=6) (by kernel_rfl) rfl (fun K hK=>?_);go_simp;refine hK _ _ ?_;clear hK K;refine wpAnyIn_done (by kernel_rfl) ?_ _;exact HE.out
    ·go_simp;refine hK _ _ ?_;clear hK K;refine wpAnyIn_ready (rs:=[3,5]) (by kernel_rfl) (by simp) (AllReadyIn.cons rfl (fun K hK=>?_) (AllReadyIn.cons rfl (fun K hK=>?_) (fun _ hj=>by cases hj)))
     ·go_simp;refine hK _ _ ?_;clear hK K;refine zP (i:=5) (by kernel_rfl) rfl (fun K hK=>?_);go_simp;refine hK _ _ ?_;clear hK K;refine zP (i:=6) (by kernel_rfl) rfl (fun K hK=>?_);go_simp;refine hK _ _ ?_;clear hK K;refine wpAnyIn_done (by kernel_rfl) ?_ _;exact HE.out
     ·go_simp;refine hK _ _ ?_;clear hK K;refine zP (i:=3) (by kernel_rfl) rfl (fun K hK=>?_);go_simp;refine hK _ _ ?_;clear hK K;refine zP (i:=6) (by kernel_rfl) rfl (fun K hK=>?_);go_simp;refine hK _ _ ?_;clear hK K;refine wpAnyIn_done (by kernel_rfl) ?_ _;exact HE.out
   ·go_simp;refine hK _ _ ?_;clear hK K;refine wpAnyIn_ready (rs:=[2,5]) (by kernel_rfl) (by simp) (AllReadyIn.cons rfl (fun K hK=>?_) (AllReadyIn.cons rfl (fun K hK=>?_) (fun _ hj=>by cases hj)))
    ·go_simp;refine hK _ _ ?_;clear hK K;refine wpAnyIn_ready (rs:=[3,5]) (by kernel_rfl) (by simp) (AllReadyIn.cons rfl (fun K hK=>?_) (AllReadyIn.cons rfl (fun K hK=>?_) (fun _ hj=>by cases hj)))
     ·go_simp;refine hK _ _ ?_;clear hK K;refine zP (i:=5) (by kernel_rfl) rfl (fun K hK=>?_);go_simp;refine hK _ _ ?_;clear hK K;refine zP (i:=6) (by kernel_rfl) rfl (fun K hK=>?_);go_simp;refine hK _ _ ?_;clear hK K;refine wpAnyIn_done (by kernel_rfl) ?_ _;exact HE.out
     ·go_simp;refine hK _ _ ?_;clear hK K;refine zP (i:=3) (by kernel_rfl) rfl (fun K hK=>?_);go_simp;refine hK _ _ ?_;clear hK K;refine zP (i:=6) (by kernel_rfl) rfl (fun K hK=>?_);go_simp;refine hK _ _ ?_;clear hK K;refine wpAnyIn_done (by kernel_rfl) ?_ _;exact HE.out
    ·go_simp;refine hK _ _ ?_;clear hK K;refine zP (i:=2) (by kernel_rfl) rfl (fun K hK=>?_);go_simp;refine hK _ _ ?_;clear hK K;refine zP (i:=3) (by kernel_rfl) rfl (fun K hK=>?_);go_simp;refine hK _ _ ?_;clear hK K;refine zP (i:=6) (by kernel_rfl) rfl (fun K hK=>?_);go_simp;refine hK _ _ ?_;clear hK K;refine wpAnyIn_done (by kernel_rfl) ?_ _;exact HE.out
  ·go_simp;refine hK _ _ ?_;clear hK K;refine zP (i:=0) (by kernel_rfl) rfl (fun K hK=>?_);go_simp;refine hK _ _ ?_;clear hK K;refine wpAnyIn_ready (rs:=[2,4]) (by kernel_rfl) (by simp) (AllReadyIn.cons rfl (fun K hK=>?_) (AllReadyIn.cons rfl (fun K hK=>?_) (fun _ hj=>by cases hj)))
   ·go_simp;refine hK _ _ ?_;clear hK K;refine wpAnyIn_ready (rs:=[3,4]) (by kernel_rfl) (by simp) (AllReadyIn.cons rfl (fun K hK=>?_) (AllReadyIn.cons rfl (fun K hK=>?_) (fun _ hj=>by cases hj)))
    ·go_simp;refine hK _ _ ?_;clear hK K;refine zP (i:=4) (by kernel_rfl) rfl (fun K hK=>?_);go_simp;refine hK _ _ ?_;clear hK K;refine zP (i:=5) (by kernel_rfl) rfl (fun K hK=>?_);go_simp;refine hK _ _ ?_;clear hK K;refine zP (i:=6) (by kernel_rfl) rfl (fun K hK=>?_);go_simp;refine hK _ _ ?_;clear hK K;refine wpAnyIn_done (by kernel_rfl) ?_ _;exact HE.out
    ·go_simp;refine hK _ _ ?_;clear hK K;refine wpAnyIn_ready (rs:=[3,5]) (by kernel_rfl) (by simp) (AllReadyIn.cons rfl (fun K hK=>?_) (AllReadyIn.cons rfl (fun K hK=>?_) (fun _ hj=>by cases hj)))
     ·go_simp;refine hK _ _ ?_;clear hK K;refine zP (i:=5) (by kernel_rfl) rfl (fun K hK=>?_);go_simp;refine hK _ _ ?_;clear hK K;refine zP (i:=6) (by kernel_rfl) rfl (fun K hK=>?_);go_simp;refine hK _ _ ?_;clear hK K;refine wpAnyIn_done (by kernel_rfl) ?_ _;exact HE.out
     ·go_simp;refine hK _ _ ?_;clear hK K;refine zP (i:=3) (by kernel_rfl) rfl (fun K hK=>?_);go_simp;refine hK _ _ ?_;clear hK K;refine zP (i:=6) (by kernel_rfl) rfl (fun K hK=>?_);go_simp;refine hK _ _ ?_;clear hK K;refine wpAnyIn_done (by kernel_rfl) ?_ _;exact HE.out
   ·go_simp;refine hK _ _ ?_;clear hK K;refine wpAnyIn_ready (rs:=[2,5]) (by kernel_rfl) (by simp) (AllReadyIn.cons rfl (fun K hK=>?_) (AllReadyIn.cons rfl (fun K hK=>?_) (fun _ hj=>by cases hj)))
    ·go_simp;refine hK _ _ ?_;clear hK K;refine wpAnyIn_ready (rs:=[3,5]) (by kernel_rfl) (by simp) (AllReadyIn.cons rfl (fun K hK=>?_) (AllReadyIn.cons rfl (fun K hK=>?_) (fun _ hj=>by cases hj)))
     ·go_simp;refine hK _ _ ?_;clear hK K;refine zP (i:=5) (by kernel_rfl) rfl (fun K hK=>?_);go_simp;refine hK _ _ ?_;clear hK K;refine zP (i:=6) (by kernel_rfl) rfl (fun K hK=>?_);go_simp;refine hK _ _ ?_;clear hK K;refine wpAnyIn_done (by kernel_rfl) ?_ _;exact HE.out
     ·go_simp;refine hK _ _ ?_;clear hK K;refine zP (i:=3) (by kernel_rfl) rfl (fun K hK=>?_);go_simp;refine hK _ _ ?_;clear hK K;refine zP (i:=6) (by kernel_rfl) rfl (fun K hK=>?_);go_simp;refine hK _ _ ?_;clear hK K;refine wpAnyIn_done (by kernel_rfl) ?_ _;exact HE.out
    ·go_simp;refine hK _ _ ?_;clear hK K;refine zP (i:=2) (by kernel_rfl) rfl (fun K hK=>?_);go_simp;refine hK _ _ ?_;clear hK K;refine zP (i:=3) (by kernel_rfl) rfl (fun K hK=>?_);go_simp;refine hK _ _ ?_;clear hK K;refine zP (i:=6) (by kernel_rfl) rfl (fun K hK=>?_);go_simp;refine hK _ _ ?_;clear hK K;refine wpAnyIn_done (by kernel_rfl) ?_ _;exact HE.out
 case done =>
  rintro D ys W hD rfl ⟨hb1,hT1,hB,hs4⟩ hK
  gi_wp2
  refine ⟨by simp,.inl ⟨_,_,rfl,run_takeDeferred hK,?_⟩⟩;refine ⟨_,results_none rfl _ _ _,⟨_,rfl⟩,?_,?_⟩
  ·exact hT1.of_block (World.putObj_heap_other (by omega))
  ·exact z2A (β:=Unit) (Nat.le_refl _) () _ _ (some D) hB (grownBy_putObj' _ _ _) (fun r e=>by cases e;exact ⟨by omega,_,hK,rfl⟩)
 case stop =>
  rintro D c pre W _ _ h _;exact h.elim
end Go.Proofs.Ytggmjiddadjilam
