/-
  PROVED HERE: how lines are built of words, and what stands in memory while the program builds them: what each step leaves.
-/
import Derived.Test.YtggmjiddadjilalGreatB9
import Derived.Test.YtggmjiddadjilalGreatB3
import Derived.Test.YtggmjiddadjilalGreatB7
import Derived.Test.YtggmjiddadjilalGreatShelf
set_option maxRecDepth 1000000
set_option maxHeartbeats 40000000
namespace Go.Proofs.YtggmjiddadjilalGreat
open Value (int)
open IntKind (i64)
open Go.RowKit Go.Shelf
def zZ (q:Int) (st:List ByteArray × ByteArray) (x:ByteArray):List ByteArray × ByteArray :=
 if 0 < st.2.size then (if q < (st.2.size:Int)+1+x.size then (st.1 ++ [st.2],x) else (st.1,st.2 ++ ⟨#[32]⟩ ++ x)) else (st.1,x)
def z0Q (q:Int) (ws:List W30):List ByteArray × ByteArray:=ws.foldl (fun st x=>zZ q st x.1) ([],⟨#[]⟩)
def z08 (st:List ByteArray × ByteArray):List ByteArray:=if 0 < st.2.size then st.1 ++ [st.2] else st.1
theorem z8G (q:Int) (ws:List W30) (x:W30):z0Q q (ws ++ [x])=zZ q (z0Q q ws) x.1:=by simp [z0Q]
theorem z5B (q:Int) (ws:List W30):(z0Q q ws).1.length<=ws.length/\(z0Q q ws).2.size<=31 * ws.length:=by
 suffices h:∀ (l:List W30) (st:List ByteArray × ByteArray) (n:Nat),st.1.length<=n->st.2.size<=31 * n->(l.foldl (fun st x=>zZ q st x.1) st).1.length<=n+l.length/\(l.foldl (fun st x=>zZ q st x.1) st).2.size<=31 * (n+l.length) by
  have:=h ws ([],⟨#[]⟩) 0 (by simp) (by simp;rfl)
  simpa [z0Q] using this
 intro l
 induction l with
 | nil=>intro st n h1 h2;exact ⟨by simpa using h1,by simpa using h2⟩
 | cons x r ih =>
  intro st n h1 h2;have hx:=x.2.2
  have h3:(zZ q st x.1).1.length<=n+1/\(zZ q st x.1).2.size<=31 * (n+1):=by
   unfold zZ
   split
   ·split
    ·exact ⟨by simp;omega,by dsimp only;omega⟩
    ·refine ⟨by dsimp only;omega,?_⟩;dsimp only;rw [ByteArray.size_append,ByteArray.size_append];have:(ByteArray.mk #[32]).size=1:=rfl;omega
   ·exact ⟨by dsimp only;omega,by dsimp only;omega⟩
  have:=ih (zZ q st x.1) (n+1) h3.1 h3.2;rw [List.foldl_cons,List.length_cons];exact ⟨by omega,by omega⟩
def LS0 (w:World) (s:ByteArray) (q:Int) (v:Value) (lines:List ByteArray) (W:World):Prop :=
 Boxed W w.heap.size 3 (int i64 q)/\Boxed W (w.heap.size+1) 74 v/\W.ownsRow (w.heap.size+4) 9 1 v lines.length (lines.map Value.string)/\Boxed W (w.heap.size+3) 9 (.string s)/\Below w.heap.size w W
def BS (w:World) (line:ByteArray) (W:World):Prop:=Lib.IsBuilderF 122 5 (w.heap.size+2) (w.heap.size+2) (Lib.strCells line) W
def Fr (w W W':World):Prop:=KeepsOthers W W'/\z2X (w.heap.size+3) W W'
theorem Fr.trans {w a b c:World} (h:Fr w a b) (k:Fr w b c):Fr w a c:=⟨h.1.trans k.1,h.2.trans k.2⟩
theorem Fr.drewN (w W:World) (n:Nat):Fr w W (W.drewN n):=⟨⟨Nat.le_refl _,fun _ _ h _=>h⟩,rfl⟩
theorem BS.block {w W:World} {line:ByteArray} (h:BS w line W):∃ c,W.heap[w.heap.size+2]?=some (.cells c 122 (0,0)):=by
 rcases h with ⟨_,v,hb,_⟩ | ⟨_,v,hb,_⟩
 ·exact ⟨_,hb⟩
 ·exact ⟨_,hb⟩
theorem z0r {w W W':World} {s:ByteArray} {q:Int} {v:Value} {lines:List ByteArray} {line:ByteArray} (h:LS0 w s q v lines W) (hb:BS w line W) (k:Below (w.heap.size+2) W W') (ko:Lib.OthersKept 5 (some (w.heap.size+2)) W W') :
  LS0 w s q v lines W'/\Fr w W W':=by
 obtain ⟨h1,h2,h3,h4,h5⟩:=h;obtain ⟨c,hc⟩:=hb.block;have e3:W'.heap[w.heap.size+3]?=W.heap[w.heap.size+3]?:=(ko _ _ h4 (by simp) (by intro c fz e;cases e)).trans (Eq.symm h4);refine ⟨⟨(k.block _ (by omega)).trans h1,(k.block _ (by omega)).trans h2,?_,e3.trans h4,h5.trans (k.mono (by omega))⟩,⟨k.size,fun j o hj ho=>?_⟩,e3⟩
 ·refine ⟨h3.1,h3.2.elim Or.inl (fun ⟨g,cap,cur,hv,hg,hcg,r⟩=>Or.inr ⟨g,cap,cur,hv,hg,ko g _ hcg (by intro e;cases e;omega) (by intro c fz e;cases e),r⟩)⟩
 ·refine ko j o hj (fun e=>?_) (fun c fz e=>?_)
  ·cases e;rw [hc] at hj;cases hj;cases ho
  ·subst e;cases ho
theorem BS.keep {w W W':World} {line:ByteArray} (h:BS w line W) (hb:W'.heap[w.heap.size+2]?=W.heap[w.heap.size+2]?) (hg:∀ g c fz,w.heap.size+2<=g->W.heap[g]?=some (.cells c 5 fz)->W'.heap[g]?=W.heap[g]?):BS w line W':=by
 have hrow:∀ v,W.ownsRowF (w.heap.size+2) 5 1 v (Lib.strCells line).length (Lib.strCells line)->W'.ownsRowF (w.heap.size+2) 5 1 v (Lib.strCells line).length (Lib.strCells line):=fun v h3 =>
  ⟨h3.1,h3.2.elim Or.inl (fun ⟨g,cap,cur,fz,hv,hgb,hcg,r⟩=>Or.inr ⟨g,cap,cur,fz,hv,hgb,(hg g cur fz hgb hcg).trans hcg,r⟩)⟩
 rcases h with ⟨hB,v,hk,h3,h4⟩ | ⟨hB,v,hk,h3,h4⟩
 ·exact Or.inl ⟨hB,v,hb.trans hk,hrow v h3,h4⟩
 ·exact Or.inr ⟨hB,v,hb.trans hk,hrow v h3,h4⟩
theorem z2T {w W w1 w2:World} {s:ByteArray} {q:Int} {v v':Value} {lines:List ByteArray} {line:ByteArray} (h:LS0 w s q v lines W) (hb:BS w line W) (k:Below (w.heap.size+2) W w1) (ko:Lib.OthersKept 5 (some (w.heap.size+2)) W w1) (hb1:BS w line w1)
  (hown':w2.ownsRow (w.heap.size+4) 9 1 v' (lines.length+1) (lines.map Value.string ++ [.string line])) (hgrow:(w1.alloc (.cells #[.string line] 9)).grownBy w2 v.ownBlock) :
  Boxed w2 (w.heap.size+1) 74 v/\LS0 w s q v' (lines ++ [line]) (w2.setCell ⟨w.heap.size+1,0,none⟩ v')/\BS w line (w2.setCell ⟨w.heap.size+1,0,none⟩ v')/\Fr w W (w2.setCell ⟨w.heap.size+1,0,none⟩ v'):=by
 obtain ⟨⟨l1,l2,l3,l4,l5⟩,f1,f2⟩:=z0r h hb k ko;obtain ⟨c,hc⟩:=hb1.block;have hl4:=Boxed.lt l4;have hne:∀ b,b < w.heap.size+4->some b ≠ v.ownBlock:=fun b hb e=>by have:=(l3.lt b e.symm).1;omega
 have old:∀ j,j < w1.heap.size->some j ≠ v.ownBlock->w2.heap[j]?=w1.heap[j]?:=fun j hj hj2=>by
  rw [hgrow.block j (by simp;omega) hj2,Below.heap_alloc _ _ _ hj]
 have e0:=old w.heap.size (by omega) (hne _ (by omega));have e1:=old (w.heap.size+1) (by omega) (hne _ (by omega));have e2:=old (w.heap.size+2) (by omega) (hne _ (by omega));have e3:=old (w.heap.size+3) (by omega) (hne _ (by omega));have sc:∀ j,j ≠ w.heap.size+1->(w2.setCell ⟨w.heap.size+1,0,none⟩ v').heap[j]?=w2.heap[j]?:=fun j hj=>Below.heap_setCell _ _ _ _ (by simpa using hj);have hv2:Boxed w2 (w.heap.size+1) 74 v:=Eq.trans e1 l2;have hB2:Below w.heap.size w w2:=(ze l5 _).grown hgrow (by have:=l5.size;simp;omega) (fun b hb=>by have:=(l3.lt b hb).1;omega)
 have kind:∀ g,v.ownBlock=some g->∃ cc,w1.heap[g]?=some (.cells cc 9 (0,0)):=fun g hg=>by
  rcases l3.2 with ⟨rfl,_⟩ | ⟨g',cap,cur,rfl,_,hgb,_⟩
  ·simp [Value.ownBlock] at hg
  ·obtain rfl:g'=g:=by simpa [Value.ownBlock] using hg
   exact ⟨cur,hgb⟩
 refine ⟨hv2,⟨(sc _ (by omega)).trans (e0.trans l1),hv2.set v',?_,(sc _ (by omega)).trans (e3.trans l4),zw hB2 (by simp) _⟩,hb1.keep ((sc _ (by omega)).trans e2) (fun g c fz hg hcg=>?_),?_,(sc _ (by omega)).trans e3 |>.trans f2⟩
 ·rw [List.length_append,List.map_append];exact ownsRow_setCell_below hown' (by simp) _
 ·have hlt:=(bL hcg);refine (sc _ (by omega)).trans (old g hlt (fun e=>?_));obtain ⟨cc,hcc⟩:=kind g e.symm;rw [hcg] at hcc
  cases hcc
 ·refine ((f1.trans (KeepsOthers.alloc w1 _)).trans (KeepsOthers.of_grownBy hgrow fun j o ej hj=>?_)).trans (KeepsOthers.setCell _ _ _);obtain ⟨cc,hcc⟩:=kind j ej;rw [Below.heap_alloc _ _ _ (bL hcc),hcc] at hj
  cases hj;rfl
theorem zfw (w:World) {β:Type} (f:β->ByteArray):Own (fun s W=>BS w (f s) W):=fun s X Y row hs hg hrow=>by
 have keep:∀ (j:Nat) (c:Array Value) (t:TypeId) (fz:Nat × Nat),X.heap[j]?=some (Obj.cells c t fz)->Y.heap[j]?=X.heap[j]?:=fun j c t fz hj=>hg.block j (bL hj) (fun e=>by
  obtain ⟨o,ho,hc⟩:=hrow j e.symm;rw [hj] at ho;cases ho;cases hc)
 have hs':BS w (f s) X:=hs;obtain ⟨c,hc⟩:=hs'.block;exact hs'.keep (keep _ _ _ _ hc) (fun g c fz _ hcg=>keep g c _ fz hcg)
theorem z3c (w:World) (line:ByteArray) (W:World) (h:BS w line W):Calls Tryz.prog 71 #[.pointer (some ⟨w.heap.size+2,0,none⟩)] W fun e w'=>e=.returned (int i64 (line.size:Nat))/\w'=W:=by
 have:=Tryz.Builder_Len_f (w.heap.size+2) (w.heap.size+2) (Lib.strCells line) W h;rw [Lib.strCells_length] at this;exact this
theorem zeP (s:ByteArray):(⟨s.data.toList.toArray⟩:ByteArray)=s:=by cases s;simp
theorem z4m (w:World) (line:ByteArray) (W:World) (h:BS w line W) (hz:w.heap.size+2<=W.heap.size):Calls Tryz.prog 72 #[.pointer (some ⟨w.heap.size+2,0,none⟩)] W fun e w'=>e=.returned (.string line)/\BS w line w'/\Below (w.heap.size+2) W w'/\Lib.OthersKept 5 (some (w.heap.size+2)) W w':=by
 have:=Tryz.Builder_String_any_k (w.heap.size+2) (w.heap.size+2) line.data.toList W h hz;rw [zeP] at this;exact this
theorem z8H (a b:ByteArray):Lib.strCells (a ++ b)=Lib.strCells a ++ Lib.strCells b:=by
 unfold Lib.strCells;rw [Joins.data_append,List.map_append]
theorem zdM (w:World) (line:ByteArray) (W:World) (h:BS w line W) (hl:line.size<=1000) (hz:w.heap.size+2<=W.heap.size):Calls Tryz.prog 74 #[.pointer (some ⟨w.heap.size+2,0,none⟩),.int .u8 32] W fun e w'=>e=.returned .nilIface/\BS w (line ++ ⟨#[32]⟩) w'/\Below (w.heap.size+2) W w'/\Lib.OthersKept 5 (some (w.heap.size+2)) W w' :=
 (zcN (w.heap.size+2) (w.heap.size+2) (Lib.strCells line) 32 W h (by rw [Lib.strCells_length];omega) hz).mono (fun _ _ ⟨h1,h2,h3,h4⟩=>⟨h1,by show Lib.IsBuilderF _ _ _ _ _ _;rw [z8H];exact Or.inr h2,h3,h4⟩)
theorem z5j (w:World) (line x:ByteArray) (W:World) (h:BS w line W) (hl:line.size<=1001) (hx:x.size<=30) (hz:w.heap.size+2<=W.heap.size):Calls Tryz.prog 75 #[.pointer (some ⟨w.heap.size+2,0,none⟩),.string x] W fun e w'=>(∃ v,e=.returned v)/\BS w (line ++ x) w'/\Below (w.heap.size+2) W w'/\Lib.OthersKept 5 (some (w.heap.size+2)) W w' :=
 (zaE (w.heap.size+2) (w.heap.size+2) (Lib.strCells line) x W h (by rw [Lib.strCells_length];omega) hz).mono (fun _ _ ⟨h1,h2,h3,h4⟩=>⟨⟨_,h1⟩,by show Lib.IsBuilderF _ _ _ _ _ _;rw [z8H];exact Or.inr h2,h3,h4⟩)
theorem z69 (w:World) (line:ByteArray) (W:World) (h:BS w line W):Calls Tryz.prog 73 #[.pointer (some ⟨w.heap.size+2,0,none⟩)] W fun e w'=>e=.returned (.tuple #[])/\BS w ⟨#[]⟩ w'/\Below (w.heap.size+2) W w'/\Lib.OthersKept 5 (some (w.heap.size+2)) W w' :=
 zdL (w.heap.size+2) (w.heap.size+2) (Lib.strCells line) W h
end Go.Proofs.YtggmjiddadjilalGreat
