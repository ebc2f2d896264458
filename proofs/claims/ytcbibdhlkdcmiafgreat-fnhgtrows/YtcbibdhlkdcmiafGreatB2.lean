/-
  PROVED HERE: what the program's take does: each of a cell's slots is in the map once more; nothing else that was in memory is turned. Also: what the program's TxtOk answers at every string: the Bool 'txtOkB', and the memory is left as it was. Also: what the model's TxtOk answers at every text; nothing that was in memory is turned.
-/
import Derived.Test.YtcbibdhlkdcmiafGreatB1
import Derived.Test.YtcbibdhlkdcmiafGreatRows
import Derived.WalkKit
import Derived.ProofKit
import Derived.WalkLawsBesides
import Derived.WalkSpells
import Derived.Below
import Derived.Lib.Strings
namespace Go.Proofs.YtcbibdhlkdcmiafGreat
open Go.RowKit Go.Shelf
attribute [local go_sem] Oper.semAt_some

theorem grown_own {β:Type} {B:Nat} {w:World} {row:Option Nat} (hB:w.heap.size≤B):OwnFrom B (fun (_:β) W=>w.grownBy W row):=fun _ X Y row' hs hg hr =>
 ⟨hg.os.trans hs.os,hg.tape.trans hs.tape,hg.output.trans hs.output,Nat.le_trans hs.size hg.size,fun k hk hne=>(hg.block k (Nat.lt_of_lt_of_le hk hs.size) (fun e=>by have:=(hr k e.symm).1;omega)).trans (hs.block k hk hne)⟩
theorem tak_own {β:Type} {B b:Nat} (hb:b < B) (f:β→List (Nat × Nat)):OwnFrom B (fun s W=>TakAt W b (f s)):=fun _ X Y row hs hg hr =>
 hs.of_block (hg.block b hs.lt (fun e=>by have:=(hr b e.symm).1;omega))
theorem turned_block {W W':World} {B k:Nat} (m:W.mapTurned W' B) (hne:k ≠ B):W'.heap[k]?=W.heap[k]?:=by
 obtain ⟨es,clock,es',clock',hb,rfl⟩:=m
 exact ChangeMaps.heap_setBlock_other hb _ hne

set_option maxRecDepth 100000 in
set_option maxHeartbeats 4000000 in
theorem take_any (r c rs cs:Nat) (i:Int) (hr:r+rs≤1000) (hc:c+cs≤1000) (w:World) (B:Nat) (L:List (Nat × Nat)) (hT:TakAt w B L) (hL:L.length+(rowsSl r c cs rs).length < 1000000) :
  Calls Tryz.prog 62 #[.map (some B),gcV r c rs cs i] w fun e w'=>(∃ v,e=.returned v)∧TakAt w' B (L ++ (rowsSl r c cs rs).map (·.1))∧w.grownBy w' (some B):=by
 have hlt:=hT.lt
 refine (callsIn_wide (n:=4)).1 ?_
 unfold gcV
 refine callsIn_of_wp_marks Tryz.func62 rfl trivial ?_ rfl
 simp only [Tryz.ntmps62,List.size_toArray,List.length_cons,List.length_nil,Nat.reduceAdd,Nat.reduceSub,Array.replicate_succ,Array.replicate_zero,List.push_toArray,List.append_toArray,List.nil_append,List.cons_append]
 gi_wp2_with (refine ⟨trivial,?_⟩;gi_at_call 101;refine (callsIn_wide.2 (slotsOf_any r c rs cs i _)).mono ?_;rintro e w' ⟨rfl,rfl⟩)
 obtain ⟨W0,hW0⟩:∃ W0,(((w.alloc (.cells #[.map (some B)] 88)).alloc (.cells #[.int .i64 r,.int .i64 c,.int .i64 rs,.int .i64 cs,.int .i64 i] 50)).alloc (gcObj r c rs cs i))=W0:=⟨_,rfl⟩
 have hsz:W0.heap.size=w.heap.size+3:=by rw [← hW0];simp
 have hB0:w.grownBy W0 (some B):=by
  have h1:=World.grownBy_alloc w (.cells #[.map (some B)] 88) none
  have h2:=World.grownBy_alloc (w.alloc (.cells #[.map (some B)] 88)) (.cells #[.int .i64 r,.int .i64 c,.int .i64 rs,.int .i64 cs,.int .i64 i] 50) none
  have h3:=World.grownBy_alloc ((w.alloc (.cells #[.map (some B)] 88)).alloc (.cells #[.int .i64 r,.int .i64 c,.int .i64 rs,.int .i64 cs,.int .i64 i] 50)) (gcObj r c rs cs i) none
  rw [hW0] at h3
  exact ((h1.trans h2).trans h3).but _
 have hx0:Boxed W0 w.heap.size 88 (.map (some B)):=by
  rw [← hW0];exact ((Boxed.new w _ _).alloc _).alloc _
 have hx3:W0.heap[w.heap.size+2]?=some (gcObj r c rs cs i):=by
  have:=World.alloc_heap_new ((w.alloc (.cells #[.map (some B)] 88)).alloc (.cells #[.int .i64 r,.int .i64 c,.int .i64 rs,.int .i64 cs,.int .i64 i] 50)) (gcObj r c rs cs i)
  rw [hW0] at this
  simpa using this
 have hT0:TakAt W0 B L:=by
  refine hT.of_block ?_
  rw [← hW0,Below.heap_alloc _ _ _ (by simp;omega),Below.heap_alloc _ _ _ (by simp;omega),Below.heap_alloc _ _ _ hlt]
 rw [hW0]
 clear hW0
 refine wpIn_rangeFunc_ownH rfl (by omega) (gf:=124) (lb:=#[.pointer (some ⟨w.heap.size+2,0,none⟩)]) rfl trivial (enters_of Tryz.func124 (by kernel_rfl) rfl)
  (slots_stops (w.heap.size+2) r c rs cs i hr hc W0 (by omega) hx3) (fun h k=>BoxK.trans h k) (BoxK_b (by omega)) (Below.refl _ _) (fun _=>rfl)
  (fun pre W=>Boxed W w.heap.size 88 (.map (some B))∧TakAt W B (L ++ pre.map (·.1))∧w.grownBy W (some B)∧w.heap.size+3≤W.heap.size)
  (fun _ _ _=>False)
  (OwnFrom.and (Own.from (boxC_own _ _ _) _) (OwnFrom.and (tak_own (by omega) (fun pre:List Sl=>L ++ pre.map (·.1))) (OwnFrom.and (grown_own (by omega)) (size_own _ _))))
  (fun _ _ _ _ _ hs _ _=>hs)
  ⟨hx0,by simpa using hT0,hB0,by omega⟩
  (fun x a' W=>∃ Bx,w.heap.size+3≤Bx∧W.heap[Bx]?=some (.cells #[.int .i64 x.1.1,.int .i64 x.1.2] 130) ∧
   a'={ tmps:=#[.map (some B),gcV r c rs cs i,.pointer (some ⟨w.heap.size,0,none⟩),.pointer (some ⟨w.heap.size+1,0,none⟩),.pointer (some ⟨Bx,0,none⟩),gcV r c rs cs i,.func (.func 124) #[] #[.pointer (some ⟨w.heap.size+1+1,0,none⟩)],slV x.1,undef,undef,undef,undef,undef,undef],defers:=[] })
  (fun x a' _ A B row hs hg hr=>by
   obtain ⟨Bx,h1,h2,h3⟩:=hs
   exact ⟨Bx,h1,obj_own Bx (fun _:Unit=>.cells #[.int .i64 x.1.1,.int .i64 x.1.2] 130) (fun _=>rfl) () A B row h2 hg (fun r e=>(hr r e).2),h3⟩)
  ?assign ?body ?done ?stop
 case assign =>
  rintro l pre x W K ⟨hb1,hT1,hB,hs4⟩ hK
  dsimp only [slV]
  gi_wp2
  refine hK _ _ ((KeepsOthers.alloc _ _).from _) ?_ ⟨hb1.alloc _,hT1.of_block (Below.heap_alloc _ _ _ hT1.lt),grown_own (β:=Unit) (Nat.le_refl _) () _ _ none hB (World.grownBy_alloc _ _ none) (fun r e=>by cases e),by simp;omega⟩ ⟨W.heap.size,hs4,World.alloc_heap_new _ _,rfl⟩
  show (W.alloc _).heap[w.heap.size+2]?=_
  exact Below.heap_alloc _ _ _ (by omega)
 case body =>
  rintro l pre x a' W hl ⟨q,hq⟩ ⟨hb1,hT1,hB,hs4⟩ ⟨Bx,h1,h2,rfl⟩ hpl
  have hlen:(L ++ pre.map (·.1)).length < 1000000:=by simp;omega
  have e0:=(show TakAt W.drew B _ from hT1).look x
  obtain ⟨v0,st,w1,w2,e1,e2,m1,e3,hT2,m2⟩:=(show TakAt W.drew B _ from hT1).step x hlen
  have hcl:=List.count_le_length (a:=x.1) (l:=L ++ pre.map (·.1))
  have hcnt:(List.count x.1 (L ++ pre.map (·.1))) < 1000000:=by omega
  generalize (List.count x.1 (L ++ pre.map (·.1)))=cn at *
  have hBx:Bx ≠ B:=by omega
  have hn0:w.heap.size ≠ B:=by omega
  have c1:W.drew.cell? ⟨w.heap.size,0,none⟩=some (.map (some B)):=hb1.cell
  have d0:W.drew.cell? ⟨Bx,0,none⟩=some (.int .i64 x.1.1):=by
   have h:W.drew.heap[Bx]?=_:=h2
   simp [World.cell?,h]
  have d1:W.drew.cell? ⟨Bx,1,none⟩=some (.int .i64 x.1.2):=by
   have h:W.drew.heap[Bx]?=_:=h2
   simp [World.cell?,h]
  have HE:=Hid.intro (show KeepsFrom W0.heap.size W w2∧BoxK (w.heap.size+2) W w2∧(Boxed w2 w.heap.size 88 (.map (some B))∧TakAt w2 B (L ++ (pre ++ [x]).map (·.1))∧w.grownBy w2 (some B)∧w.heap.size+3≤w2.heap.size) from by
   have hg:W.grownBy w2 (some B):=⟨m2.grown.os,m2.grown.tape,m2.grown.output,m2.grown.size,m2.grown.block⟩
   refine ⟨KeepsFrom.of_grownBy hg (fun j e=>by cases e;omega),?_,hb1.kept hg (by simp;omega),by simpa using hT2,?_,Nat.le_trans hs4 hg.size⟩
   ·exact turned_block (W:=W.drew) m2 (by omega)
   ·exact ⟨hg.os.trans hB.os,hg.tape.trans hB.tape,hg.output.trans hB.output,Nat.le_trans hB.size hg.size,fun k hk hne=>(hg.block k (Nat.lt_of_lt_of_le hk hB.size) hne).trans (hB.block k hk hne)⟩)
  have hmx:Tryz.prog.follows .mixedOrders=true:=by kernel_rfl
  unfold slV at e0 e1 e2
  simp only [goInt] at e1 e3
  have hwr:IntKind.i64.wrap ((cn:Int)+1)=(cn:Int)+1:=by rw [IntKind.wrap_i64];omega
  rw [← hwr] at e3
  clear hT2 m1 m2 hB hT1 hb1 h2 hcl hq hwr
  gi_wp2
  refine wpIn_region_any hmx ?_
  change wpAnyIn _ _ _ _ _ _ _ _ _ (World.drew _)
  refine wpAnyIn_ready (rs:=[0,1]) (by kernel_rfl) (by simp) (AllReadyIn.cons rfl (fun K hK=>?_) (AllReadyIn.cons rfl (fun K hK=>?_) (fun _ hj=>by cases hj)))
  ·go_simp
   refine hK _ _ ?_
   clear hK K
   refine ready1 (i:=1) (by kernel_rfl) rfl (fun K hK=>?_)
   go_simp
   refine hK _ _ ?_
   clear hK K
   refine wpAnyIn_ready (rs:=[2,4]) (by kernel_rfl) (by simp) (AllReadyIn.cons rfl (fun K hK=>?_) (AllReadyIn.cons rfl (fun K hK=>?_) (fun _ hj=>by cases hj)))
   ·go_simp
    refine hK _ _ ?_
    clear hK K
    refine wpAnyIn_ready (rs:=[3,4]) (by kernel_rfl) (by simp) (AllReadyIn.cons rfl (fun K hK=>?_) (AllReadyIn.cons rfl (fun K hK=>?_) (fun _ hj=>by cases hj)))
    ·go_simp
     refine hK _ _ ?_
     clear hK K
     refine ready1 (i:=4) (by kernel_rfl) rfl (fun K hK=>?_)
     go_simp
     refine hK _ _ ?_
     clear hK K
     refine ready1 (i:=5) (by kernel_rfl) rfl (fun K hK=>?_)
     go_simp
     refine hK _ _ ?_
     clear hK K
     refine ready1 (i:=6) (by kernel_rfl) rfl (fun K hK=>?_)
     go_simp
     refine hK _ _ ?_
     clear hK K
     refine wpAnyIn_done (by kernel_rfl) ?_ _
     exact HE.out
    ·go_simp
     refine hK _ _ ?_
     clear hK K
     refine wpAnyIn_ready (rs:=[3,5]) (by kernel_rfl) (by simp) (AllReadyIn.cons rfl (fun K hK=>?_) (AllReadyIn.cons rfl (fun K hK=>?_) (fun _ hj=>by cases hj)))
     ·go_simp
      refine hK _ _ ?_
      clear hK K
      refine ready1 (i:=5) (by kernel_rfl) rfl (fun K hK=>?_)
      go_simp
      refine hK _ _ ?_
      clear hK K
      refine ready1 (i:=6) (by kernel_rfl) rfl (fun K hK=>?_)
      go_simp
      refine hK _ _ ?_
      clear hK K
      refine wpAnyIn_done (by kernel_rfl) ?_ _
      exact HE.out
     ·go_simp
      refine hK _ _ ?_
      clear hK K
      refine ready1 (i:=3) (by kernel_rfl) rfl (fun K hK=>?_)
      go_simp
      refine hK _ _ ?_
      clear hK K
      refine ready1 (i:=6) (by kernel_rfl) rfl (fun K hK=>?_)
      go_simp
      refine hK _ _ ?_
      clear hK K
      refine wpAnyIn_done (by kernel_rfl) ?_ _
      exact HE.out
   ·go_simp
    refine hK _ _ ?_
    clear hK K
    refine wpAnyIn_ready (rs:=[2,5]) (by kernel_rfl) (by simp) (AllReadyIn.cons rfl (fun K hK=>?_) (AllReadyIn.cons rfl (fun K hK=>?_) (fun _ hj=>by cases hj)))
    ·go_simp
     refine hK _ _ ?_
     clear hK K
     refine wpAnyIn_ready (rs:=[3,5]) (by kernel_rfl) (by simp) (AllReadyIn.cons rfl (fun K hK=>?_) (AllReadyIn.cons rfl (fun K hK=>?_) (fun _ hj=>by cases hj)))
     ·go_simp
      refine hK _ _ ?_
      clear hK K
      refine ready1 (i:=5) (by kernel_rfl) rfl (fun K hK=>?_)
      go_simp
      refine hK _ _ ?_
      clear hK K
      refine ready1 (i:=6) (by kernel_rfl) rfl (fun K hK=>?_)
      go_simp
      refine hK _ _ ?_
      clear hK K
      refine wpAnyIn_done (by kernel_rfl) ?_ _
      exact HE.out
     ·go_simp
      refine hK _ _ ?_
      clear hK K
      refine ready1 (i:=3) (by kernel_rfl) rfl (fun K hK=>?_)
      go_simp
      refine hK _ _ ?_
      clear hK K
      refine ready1 (i:=6) (by kernel_rfl) rfl (fun K hK=>?_)
      go_simp
      refine hK _ _ ?_
      clear hK K
      refine wpAnyIn_done (by kernel_rfl) ?_ _
      exact HE.out
    ·go_simp
     refine hK _ _ ?_
     clear hK K
     refine ready1 (i:=2) (by kernel_rfl) rfl (fun K hK=>?_)
     go_simp
     refine hK _ _ ?_
     clear hK K
     refine ready1 (i:=3) (by kernel_rfl) rfl (fun K hK=>?_)
     go_simp
     refine hK _ _ ?_
     clear hK K
     refine ready1 (i:=6) (by kernel_rfl) rfl (fun K hK=>?_)
     go_simp
     refine hK _ _ ?_
     clear hK K
     refine wpAnyIn_done (by kernel_rfl) ?_ _
     exact HE.out
  ·go_simp
   refine hK _ _ ?_
   clear hK K
   refine ready1 (i:=0) (by kernel_rfl) rfl (fun K hK=>?_)
   go_simp
   refine hK _ _ ?_
   clear hK K
   refine wpAnyIn_ready (rs:=[2,4]) (by kernel_rfl) (by simp) (AllReadyIn.cons rfl (fun K hK=>?_) (AllReadyIn.cons rfl (fun K hK=>?_) (fun _ hj=>by cases hj)))
   ·go_simp
    refine hK _ _ ?_
    clear hK K
    refine wpAnyIn_ready (rs:=[3,4]) (by kernel_rfl) (by simp) (AllReadyIn.cons rfl (fun K hK=>?_) (AllReadyIn.cons rfl (fun K hK=>?_) (fun _ hj=>by cases hj)))
    ·go_simp
     refine hK _ _ ?_
     clear hK K
     refine ready1 (i:=4) (by kernel_rfl) rfl (fun K hK=>?_)
     go_simp
     refine hK _ _ ?_
     clear hK K
     refine ready1 (i:=5) (by kernel_rfl) rfl (fun K hK=>?_)
     go_simp
     refine hK _ _ ?_
     clear hK K
     refine ready1 (i:=6) (by kernel_rfl) rfl (fun K hK=>?_)
     go_simp
     refine hK _ _ ?_
     clear hK K
     refine wpAnyIn_done (by kernel_rfl) ?_ _
     exact HE.out
    ·go_simp
     refine hK _ _ ?_
     clear hK K
     refine wpAnyIn_ready (rs:=[3,5]) (by kernel_rfl) (by simp) (AllReadyIn.cons rfl (fun K hK=>?_) (AllReadyIn.cons rfl (fun K hK=>?_) (fun _ hj=>by cases hj)))
     ·go_simp
      refine hK _ _ ?_
      clear hK K
      refine ready1 (i:=5) (by kernel_rfl) rfl (fun K hK=>?_)
      go_simp
      refine hK _ _ ?_
      clear hK K
      refine ready1 (i:=6) (by kernel_rfl) rfl (fun K hK=>?_)
      go_simp
      refine hK _ _ ?_
      clear hK K
      refine wpAnyIn_done (by kernel_rfl) ?_ _
      exact HE.out
     ·go_simp
      refine hK _ _ ?_
      clear hK K
      refine ready1 (i:=3) (by kernel_rfl) rfl (fun K hK=>?_)
      go_simp
      refine hK _ _ ?_
      clear hK K
      refine ready1 (i:=6) (by kernel_rfl) rfl (fun K hK=>?_)
      go_simp
      refine hK _ _ ?_
      clear hK K
      refine wpAnyIn_done (by kernel_rfl) ?_ _
      exact HE.out
   ·go_simp
    refine hK _ _ ?_
    clear hK K
    refine wpAnyIn_ready (rs:=[2,5]) (by kernel_rfl) (by simp) (AllReadyIn.cons rfl (fun K hK=>?_) (AllReadyIn.cons rfl (fun K hK=>?_) (fun _ hj=>by cases hj)))
    ·go_simp
     refine hK _ _ ?_
     clear hK K
     refine wpAnyIn_ready (rs:=[3,5]) (by kernel_rfl) (by simp) (AllReadyIn.cons rfl (fun K hK=>?_) (AllReadyIn.cons rfl (fun K hK=>?_) (fun _ hj=>by cases hj)))
     ·go_simp
      refine hK _ _ ?_
      clear hK K
      refine ready1 (i:=5) (by kernel_rfl) rfl (fun K hK=>?_)
      go_simp
      refine hK _ _ ?_
      clear hK K
      refine ready1 (i:=6) (by kernel_rfl) rfl (fun K hK=>?_)
      go_simp
      refine hK _ _ ?_
      clear hK K
      refine wpAnyIn_done (by kernel_rfl) ?_ _
      exact HE.out
     ·go_simp
      refine hK _ _ ?_
      clear hK K
      refine ready1 (i:=3) (by kernel_rfl) rfl (fun K hK=>?_)
      go_simp
      refine hK _ _ ?_
      clear hK K
      refine ready1 (i:=6) (by kernel_rfl) rfl (fun K hK=>?_)
      go_simp
      refine hK _ _ ?_
      clear hK K
      refine wpAnyIn_done (by kernel_rfl) ?_ _
      exact HE.out
    ·go_simp
     refine hK _ _ ?_
     clear hK K
     refine ready1 (i:=2) (by kernel_rfl) rfl (fun K hK=>?_)
     go_simp
     refine hK _ _ ?_
     clear hK K
     refine ready1 (i:=3) (by kernel_rfl) rfl (fun K hK=>?_)
     go_simp
     refine hK _ _ ?_
     clear hK K
     refine ready1 (i:=6) (by kernel_rfl) rfl (fun K hK=>?_)
     go_simp
     refine hK _ _ ?_
     clear hK K
     refine wpAnyIn_done (by kernel_rfl) ?_ _
     exact HE.out
 case done =>
  rintro D ys W hD rfl ⟨hb1,hT1,hB,hs4⟩ hK
  gi_wp2
  refine ⟨by simp,.inl ⟨_,_,rfl,run_takeDeferred hK,?_⟩⟩
  refine ⟨_,results_none rfl _ _ _,⟨_,rfl⟩,?_,?_⟩
  ·exact hT1.of_block (World.putObj_heap_other (by omega))
  ·exact grown_own (β:=Unit) (Nat.le_refl _) () _ _ (some D) hB (grownBy_putObj' _ _ _) (fun r e=>by cases e;exact ⟨by omega,_,hK,rfl⟩)
 case stop =>
  rintro D c pre W _ _ h _
  exact h.elim
end Go.Proofs.YtcbibdhlkdcmiafGreat
namespace Go.Proofs.YtcbibdhlkdcmiafGreat
open Go.RowKit

/-- the i-th byte of a text, 0 past its end -/
def ch (s:ByteArray) (i:Nat):Int:=if h:i < s.size then (s[i].toNat:Int) else 0
def goodB (s:ByteArray) (i:Nat):Bool:=decide ((ch s i=32→i ≠ 0∧i+1 ≠ s.size∧ch s (i - 1) ≠ 32)∧(ch s i ≠ 32→97≤ch s i∧ch s i≤122))
def txtOkB (s:ByteArray):Bool:=decide (s.size≤30) && (List.range s.size).all (goodB s)

theorem txtOkB_iff (s:ByteArray):txtOkB s=true ↔ s.size≤30∧∀ i,i < s.size→goodB s i=true:=by
 simp [txtOkB,List.all_eq_true]
theorem txtOkB_long {s:ByteArray} (h:¬ s.size≤30):txtOkB s=false:=by simp [txtOkB,h]
theorem txtOkB_bad {s:ByteArray} (i:Nat) (hi:i < s.size) (h:goodB s i=false):txtOkB s=false:=by
 cases hb:txtOkB s with
 | false=>rfl
 | true=>rw [((txtOkB_iff s).1 hb).2 i hi] at h;cases h
theorem txtOkB_all {s:ByteArray} (h30:s.size≤30) (h:∀ i,i < s.size→goodB s i=true):txtOkB s=true:=(txtOkB_iff s).2 ⟨h30,h⟩
theorem ch_at {s:ByteArray} {i:Nat} (h:i < s.size):ch s i=(s[i].toNat:Int):=by simp [ch,h]
theorem next_all {s:ByteArray} {k:Nat} (h:∀ j,j < k→goodB s j=true) (hk:goodB s k=true):∀ j,j < k+1→goodB s j=true:=by
 intro j hj
 rcases Nat.lt_or_eq_of_le (Nat.lt_succ_iff.1 hj) with h1 | h1
 ·exact h j h1
 ·rw [h1];exact hk
theorem toList_nil {s:ByteArray} (h:s.size=0):s.toList=[]:=by
 rw [Lib.toList_data];exact List.eq_nil_of_length_eq_zero (by simpa using h)
theorem size_nil {s:ByteArray} (h:s.toList=[]):s.size=0:=by
 rw [Lib.toList_data] at h;have:=congrArg List.length h;simpa using this
theorem ret_bool {a b:Bool} (h:a=b):Ending.returned (.bool a)=.returned (.bool b):=by rw [h]

def bef (s:ByteArray) (k:Nat):Int:=if k=0 then 32 else ch s (k - 1)
def goodI (s:ByteArray) (j:Nat):Prop:=(ch s j=32→bef s j ≠ 32)∧(ch s j ≠ 32→97≤ch s j∧ch s j≤122)
theorem goodI_next {s:ByteArray} {k:Nat} (h:∀ j,j < k→goodI s j) (hk:goodI s k):∀ j,j < k+1→goodI s j:=by
 intro j hj
 rcases Nat.lt_or_eq_of_le (Nat.lt_succ_iff.1 hj) with h1 | h1
 ·exact h j h1
 ·rw [h1];exact hk
theorem txtOkB_badI {s:ByteArray} (k:Nat) (hk:k < s.size) (h:¬ goodI s k):txtOkB s=false:=by
 refine txtOkB_bad k hk ?_
 unfold goodI bef at h
 unfold goodB
 rw [decide_eq_false_iff_not]
 intro ⟨h1,h2⟩
 apply h
 refine ⟨fun e=>?_,h2⟩
 obtain ⟨a,_,c⟩:=h1 e
 simp [a];exact c
theorem txtOkB_endI {s:ByteArray} (h30:s.size≤30) (h:∀ j,j < s.size→goodI s j) (hz:s.size ≠ 0) (hl:bef s s.size ≠ 32):txtOkB s=true:=by
 refine txtOkB_all h30 (fun i hi=>?_)
 have hg:=h i hi
 unfold goodI bef at hg
 unfold bef at hl
 unfold goodB
 rw [decide_eq_true_iff]
 refine ⟨fun e=>?_,hg.2⟩
 have h1:=hg.1 e
 by_cases i0:i=0
 ·simp [i0] at h1
 ·simp [i0] at h1
  refine ⟨i0,fun he=>?_,h1⟩
  rw [if_neg hz,← he] at hl
  simp at hl
  exact hl e
theorem txtOkB_emptyI {s:ByteArray} (hz:s.size=0):txtOkB s=true:=txtOkB_all (by omega) (fun i hi=>by omega)
theorem txtOkB_lastI {s:ByteArray} (hz:s.size ≠ 0) (hl:bef s s.size=32):txtOkB s=false:=by
 refine txtOkB_bad (s.size - 1) (by omega) ?_
 unfold bef at hl
 rw [if_neg hz] at hl
 unfold goodB
 rw [decide_eq_false_iff_not]
 intro ⟨h1,_⟩
 exact (h1 hl).2.1 (by omega)
theorem bef_succ {s:ByteArray} {k:Nat} (h:k < s.size):bef s (k+1)=(s[k].toNat:Int):=by simp [bef,ch,h]

set_option maxRecDepth 100000 in
set_option maxHeartbeats 400000 in
theorem implTxtOk (s:ByteArray) (w:World) (hs:s.size≤maxLen) :
  Calls Tryz.prog 45 #[.string s] w fun e w'=>e=.returned (.bool (txtOkB s))∧w'=w:=by
 unfold maxLen at hs
 by_cases h30:s.size≤30
 ·go_enter Tryz.func45,Tryz.ntmps45
  go_wp2
  go_loop [3,4,10] (fun b _ i=>∃ (k:Nat) (B:Int),k≤s.size∧i=.int .i64 k∧b=.int .u8 B∧Hid (bef s k=B)∧Hid (∀ j,j < k→goodI s j)) (fun _ _ i=>s.size - (intOf i).toNat)
  case atStart=>exact ⟨0,32,Nat.zero_le _,rfl,rfl,rfl,fun j hj=>absurd hj (Nat.not_lt_zero _)⟩
  case round =>
   obtain ⟨k,B,hk,rfl,rfl,HBf,HA⟩:=hrel
   by_cases hlt:k < s.size
   ·have hb:(s[k].toNat:Int) < 256:=by have:=s[k].toNat_lt;omega
    have HC:Hid (ch s k=(s[k].toNat:Int)):=ch_at hlt
    have HS:Hid (bef s (k+1)=(s[k].toNat:Int)):=bef_succ hlt
    by_cases hc:(s[k].toNat:Int)=32
    ·have hc':((s[k].toNat:Int) == 32)=true:=beq_iff_eq.2 hc
     have hc2:((s[k].toNat:Int) != 32)=false:=by rw [bne,hc'];rfl
     have HE:Hid (ch s k=32):=HC.out.trans hc
     clear hc HC hb
     by_cases hB:B=32
     ·as_aux_lemma =>
       have hB':(B == 32)=true:=beq_iff_eq.2 hB
       have HF:Hid (txtOkB s=false):=txtOkB_badI k hlt (fun hg=>hg.1 HE.out (HBf.out.trans hB))
       clear hB HE HBf HA HS
       go_wp2
       go_ret
       exact ⟨ret_bool HF.out.symm,rfl⟩
     ·as_aux_lemma =>
       have hB':(B == 32)=false:=beq_eq_false_iff_ne.2 hB
       have HN:Hid (∀ j,j < k+1→goodI s j):=goodI_next HA.out ⟨fun _=>by rw [HBf.out];exact hB,fun hne=>absurd HE.out hne⟩
       clear hB HE HBf HA
       go_wp2
       go_round
       case rel=>exact ⟨k+1,_,by omega,by go_num,rfl,HS,HN⟩
       case measure=>simp [intOf];omega
    ·have hc':((s[k].toNat:Int) == 32)=false:=beq_eq_false_iff_ne.2 hc
     have hc2:((s[k].toNat:Int) != 32)=true:=bne_iff_ne.2 hc
     by_cases hr:97≤(s[k].toNat:Int)∧(s[k].toNat:Int)≤122
     ·as_aux_lemma =>
       have HN:Hid (∀ j,j < k+1→goodI s j):=goodI_next HA.out ⟨fun he=>absurd (HC.out.symm.trans he) hc,fun _=>by rw [HC.out];exact hr⟩
       obtain ⟨hr1,hr2⟩:=hr
       clear HC HA hc HBf
       go_wp2
       go_round
       case rel=>exact ⟨k+1,_,by omega,by go_num,rfl,HS,HN⟩
       case measure=>simp [intOf];omega
     ·have HF:Hid (txtOkB s=false):=txtOkB_badI k hlt (fun hg=>hr (by have:=hg.2 (by rw [HC.out];exact hc);rw [HC.out] at this;exact this))
      clear HC HA hc HBf HS
      by_cases hr1:97≤(s[k].toNat:Int)
      ·as_aux_lemma =>
        have hr2:¬ (s[k].toNat:Int)≤122:=by omega
        clear hr
        go_wp2
        go_ret
        exact ⟨ret_bool HF.out.symm,rfl⟩
      ·as_aux_lemma =>
        clear hr
        go_wp2
        go_ret
        exact ⟨ret_bool HF.out.symm,rfl⟩
   ·obtain rfl:k=s.size:=by omega
    by_cases hz:s.size=0
    ·have he:s.toList=[]:=toList_nil hz
     have HF:Hid (txtOkB s=true):=txtOkB_emptyI hz
     clear HBf HA
     go_wp2
     go_ret
     exact ⟨ret_bool HF.out.symm,rfl⟩
    ·have he:¬ s.toList=[]:=fun h=>hz (size_nil h)
     have he2:s.toList.isEmpty=false:=by simpa using he
     by_cases hB:B=32
     ·have hB':(B != 32)=false:=by simp [hB]
      have HF:Hid (txtOkB s=false):=txtOkB_lastI hz (HBf.out.trans hB)
      clear HBf HA hB hz he
      go_wp2
      go_ret
      exact ⟨ret_bool HF.out.symm,rfl⟩
     ·have hB':(B != 32)=true:=bne_iff_ne.2 hB
      have HF:Hid (txtOkB s=true):=txtOkB_endI h30 HA.out hz (by rw [HBf.out];exact hB)
      clear HBf HA hB hz he
      go_wp2
      go_ret
      exact ⟨ret_bool HF.out.symm,rfl⟩
 ·go_enter Tryz.func45,Tryz.ntmps45
  go_wp2
  go_ret
  exact ⟨ret_bool (txtOkB_long h30).symm,rfl⟩
end Go.Proofs.YtcbibdhlkdcmiafGreat
namespace Go.Proofs.YtcbibdhlkdcmiafGreat
open Go.RowKit

set_option maxRecDepth 100000 in
set_option maxHeartbeats 400000 in
theorem specTxtOk (s:ByteArray) (w:World) (hs:s.size≤maxLen) :
  Calls Tryz.prog 87 #[.string s] w fun e w'=>e=.returned (.bool (txtOkB s))∧w'=w:=by
 unfold maxLen at hs
 by_cases h30:s.size≤30
 ·go_enter Tryz.func87,Tryz.ntmps87
  go_wp2
  go_loop [3] (fun i=>∃ k:Nat,k≤s.size∧i=.int .i64 k∧∀ j,j < k→goodB s j=true) (fun i=>s.size - (intOf i).toNat)
  case atStart=>exact ⟨0,Nat.zero_le _,rfl,fun j hj=>absurd hj (Nat.not_lt_zero _)⟩
  case round =>
   obtain ⟨k,hk,rfl,hall0⟩:=hrel
   have HA:Hid (∀ j,j < k→goodB s j=true):=hall0
   clear hall0
   by_cases hlt:k < s.size
   ·have hb:(s[k].toNat:Int) < 256:=by have:=s[k].toNat_lt;omega
    have HC:Hid (ch s k=(s[k].toNat:Int)):=ch_at hlt
    by_cases hc:(s[k].toNat:Int)=32
    ·have hc':((s[k].toNat:Int) == 32)=true:=beq_iff_eq.2 hc
     have HE:Hid (ch s k=32):=HC.out.trans hc
     clear hc HC hb
     by_cases h0:k=0
     ·as_aux_lemma =>
       subst h0
       have hbad:goodB s 0=false:=by simp [goodB,HE.out]
       have HB:Hid (txtOkB s=false):=txtOkB_bad 0 hlt hbad
       clear hbad HE HA
       go_wp2
       go_ret
       exact ⟨ret_bool HB.out.symm,rfl⟩
     ·have h0':((k:Int) == 0)=false:=beq_eq_false_iff_ne.2 (by omega)
      by_cases h1:k+1=s.size
      ·as_aux_lemma =>
        have h1':((k:Int) == (s.size:Int) - 1)=true:=beq_iff_eq.2 (by omega)
        have hbad:goodB s k=false:=by simp [goodB,HE.out,h1]
        have HB:Hid (txtOkB s=false):=txtOkB_bad k hlt hbad
        clear hbad HE HA h1 h0
        go_wp2
        go_ret
        exact ⟨ret_bool HB.out.symm,rfl⟩
      ·have h1':((k:Int) == (s.size:Int) - 1)=false:=beq_eq_false_iff_ne.2 (by omega)
       have hl2:k - 1 < s.size:=by omega
       have HP:Hid (ch s (k - 1)=(s[k - 1].toNat:Int)):=ch_at hl2
       by_cases hp:(s[k - 1].toNat:Int)=32
       ·as_aux_lemma =>
         have hp':((s[k - 1].toNat:Int) == 32)=true:=beq_iff_eq.2 hp
         have hbad:goodB s k=false:=by simp [goodB,HE.out,HP.out,hp]
         have HB:Hid (txtOkB s=false):=txtOkB_bad k hlt hbad
         clear hbad HE HA HP hp
         go_wp2
         go_ret
         exact ⟨ret_bool HB.out.symm,rfl⟩
       ·as_aux_lemma =>
         have hp':((s[k - 1].toNat:Int) == 32)=false:=beq_eq_false_iff_ne.2 hp
         have hc2:((s[k].toNat:Int) != 32)=false:=by rw [bne,hc'];rfl
         have hgood:goodB s k=true:=by simp [goodB,HE.out,HP.out,hp,h0,h1]
         have HN:Hid (∀ j,j < k+1→goodB s j=true):=next_all HA.out hgood
         clear hgood HE HA HP hp
         go_wp2
         go_round
         case rel=>exact ⟨k+1,by omega,by go_num,HN.out⟩
         case measure=>simp [intOf];omega
    ·have hc':((s[k].toNat:Int) == 32)=false:=beq_eq_false_iff_ne.2 hc
     have hc2:((s[k].toNat:Int) != 32)=true:=bne_iff_ne.2 hc
     by_cases hr:97≤(s[k].toNat:Int)∧(s[k].toNat:Int)≤122
     ·as_aux_lemma =>
       obtain ⟨hr1,hr2⟩:=hr
       have hgood:goodB s k=true:=by simp [goodB,HC.out];omega
       have HN:Hid (∀ j,j < k+1→goodB s j=true):=next_all HA.out hgood
       clear hgood HC HA hc
       go_wp2
       go_round
       case rel=>exact ⟨k+1,by omega,by go_num,HN.out⟩
       case measure=>simp [intOf];omega
     ·have hbad:goodB s k=false:=by simp [goodB,HC.out];omega
      have HB:Hid (txtOkB s=false):=txtOkB_bad k hlt hbad
      clear hbad HC HA hc
      by_cases hr1:97≤(s[k].toNat:Int)
      ·as_aux_lemma =>
        have hr2:¬ (s[k].toNat:Int)≤122:=by omega
        clear hr
        go_wp2
        go_ret
        exact ⟨ret_bool HB.out.symm,rfl⟩
      ·as_aux_lemma =>
        clear hr
        go_wp2
        go_ret
        exact ⟨ret_bool HB.out.symm,rfl⟩
   ·go_wp2
    go_ret
    exact ⟨ret_bool (txtOkB_all h30 (fun i hi=>HA.out i (by omega))).symm,rfl⟩
 ·go_enter Tryz.func87,Tryz.ntmps87
  go_wp2
  go_ret
  exact ⟨ret_bool (txtOkB_long h30).symm,rfl⟩
end Go.Proofs.YtcbibdhlkdcmiafGreat
