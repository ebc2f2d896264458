/-
  PROVED HERE: which of two borders beats the other one, as a Bool; it is an order. Also: 11 more texts of the same proof.
-/
import Derived.Test.YtggmjiddadjilamB11
import Derived.Deep.DeepCutAuto
set_option maxRecDepth 1000000
set_option maxHeartbeats 40000000
namespace Go.Proofs.Ytggmjiddadjilam
section
open Go.RowKit
def z0J (a b c d:Int):Bool:=if a=4∨c=4 then decide (a=4∧c ≠ 4) else if b ≠ d then decide (d < b) else decide (c < a)
theorem z34 {c:Int} (b d:Int) (hc:c ≠ 4):z0J 4 b c d=true:=by simp [z0J,hc]
theorem z1R {a:Int} (b d:Int):z0J a b 4 d=false:=by simp [z0J]
theorem z35 {a b c d:Int} (ha:a ≠ 4) (hc:c ≠ 4) (h:b ≠ d):z0J a b c d=decide (d < b):=by simp [z0J,ha,hc,h]
theorem z2N {a b c:Int} (ha:a ≠ 4) (hc:c ≠ 4):z0J a b c b=decide (c < a):=by simp [z0J,ha,hc]
structure Fr where
 s:Int
 w:Int
 c:Int
def dF:Fr:=⟨0,0,-1⟩
def btF (a b:Fr):Bool:=z0J a.s a.w b.s b.w
def zo (l:List Fr):Nat→Fr
 | 0=>dF
 | k+1=>if k=0 then l.getD 0 dF else if btF (l.getD k dF) (zo l k)=true then l.getD k dF else zo l k
def zJ (l:List Fr):Fr:=zo l l.length
theorem z50 {l:List Fr} {k:Nat} (h:btF (l.getD (k+1) dF) (zo l (k+1))=true):zo l (k+2)=l.getD (k+1) dF:=by rw [zo,if_neg (by omega),if_pos h]
theorem z5p {l:List Fr} {k:Nat} (h:btF (l.getD (k+1) dF) (zo l (k+1))=false):zo l (k+2)=zo l (k+1):=by rw [zo,if_neg (by omega),if_neg (by rw [h];simp)]
def z0V (w:World) (z:Nat) (v:Value) (l:List Fr):Prop:=At w z v l.length 3 (fun i b o=>w.cell? ⟨b,o,none⟩=some (.int .i64 (l.getD i dF).s)∧w.cell? ⟨b,o+1,none⟩=some (.int .i64 (l.getD i dF).w)∧w.cell? ⟨b,o+2,none⟩=some (.int .i64 (l.getD i dF).c))
theorem z0V.kept {w w':World} {z:Nat} {v:Value} {l:List Fr} (h:z0V w z v l) (k:Below w.heap.size w w'):z0V w' z v l :=
 At.mono h k.size (Nat.le_refl _) (fun _ b _ _ hb _ he=>⟨(k.cell (p:=⟨b,_,none⟩) hb).trans he.1,(k.cell (p:=⟨b,_,none⟩) hb).trans he.2.1,(k.cell (p:=⟨b,_,none⟩) hb).trans he.2.2⟩)
theorem z0V.base {w:World} {z z':Nat} {v:Value} {l:List Fr} (h:z0V w z v l) (hz:z'≤z):z0V w z' v l:=At.mono h (Nat.le_refl _) hz (fun _ _ _ _ _ _ he=>he)
theorem zy {w:World} {g:Nat} {x0 x1 x2:Value} {t:TypeId} (h:w.heap[g]?=some (.cells #[x0,x1,x2] t)) :
  (w.cell? ⟨g,0,none⟩=some x0∧w.cell? ⟨g,1,none⟩=some x1∧w.cell? ⟨g,2,none⟩=some x2)∧w.frozen? ⟨g,0,none⟩=false∧w.frozen? ⟨g,1,none⟩=false∧w.frozen? ⟨g,2,none⟩=false :=
 ⟨⟨zc h,zc h,zc h⟩,zn h,zn h,zn h⟩
def st3 (w:World) (g:Nat) (y0 y1 y2:Value):World:=((w.setCell ⟨g,0,none⟩ y0).setCell ⟨g,1,none⟩ y1).setCell ⟨g,2,none⟩ y2
theorem z0g (w:World) (g:Nat) (y0 y1 y2:Value):Bk g w (st3 w g y0 y1 y2):=(Bk.set (Bk.set (Bk.set (Bk.refl g w) (p:=⟨g,0,none⟩) (.inl rfl) y0) (p:=⟨g,1,none⟩) (.inl rfl) y1) (p:=⟨g,2,none⟩) (.inl rfl) y2)
theorem z43 {w:World} {g:Nat} {x0 x1 x2:Value} {t:TypeId} (h:w.heap[g]?=some (.cells #[x0,x1,x2] t)) (y0 y1 y2:Value):(st3 w g y0 y1 y2).heap[g]?=some (.cells #[y0,y1,y2] t) :=
 (zL (zL (zL h (p:=0) y0) (p:=1) y1) (p:=2) y2).trans (by simp)
theorem z4K (w:World) (a:Fr) (T:TypeId):z0V (w.alloc (.cells #[.int .i64 a.s,.int .i64 a.w,.int .i64 a.c] T)) w.heap.size (.slice (some ⟨w.heap.size,0,none⟩) 1 1) [a] :=
 ⟨_,1,rfl,Nat.le_refl _,by decide,fun i hi=>⟨w.heap.size,0,rfl,by simp,Nat.le_refl _,by
  obtain rfl:i=0:=by simpa using hi
  exact ⟨zc (zf _ _),zc (zf _ _),zc (zf _ _)⟩⟩⟩
theorem z6D (w:World) (a b:Fr) (T:TypeId):z0V (w.alloc (.cells #[.int .i64 a.s,.int .i64 a.w,.int .i64 a.c,.int .i64 b.s,.int .i64 b.w,.int .i64 b.c] T)) w.heap.size (.slice (some ⟨w.heap.size,0,none⟩) 2 2) [a,b] :=
 ⟨_,2,rfl,Nat.le_refl _,by decide,fun i hi=>⟨w.heap.size,0,rfl,by simp,Nat.le_refl _,by
  have hi:i < 2:=(by simpa using hi)
  rcases (by omega:i=0∨i=1) with rfl | rfl
  ·exact ⟨zc (zf _ _),zc (zf _ _),zc (zf _ _)⟩
  ·exact ⟨zc (zf _ _),zc (zf _ _),zc (zf _ _)⟩⟩⟩
def z7E (rs:List R) (k:Nat):Nat:=((rs.take k).map (fun x=>x.cells.length)).sum
end
section
open Go.RowKit
section
variable {P:Program} {ops:Array Oper} {C:World→Prop}
def z42 (ops:Array Oper) (z:Nat):Bool:=(List.range z).all fun i=>(List.range (z+1)).any fun j=>decide (i < j) && z3g ops j i
theorem z3O {z:Nat} {L:Nat→Bool} (hs:z42 ops z=true) (hc:z1f ops L) {o:Oper} (ho:ops[z]?=some o) (ha:∀ e ∈ o.after,Region.binds .any e=true→L e.on=true):∀ n i,z - i≤n→i < z→L i=true
 | 0,i,h,hi=>by omega
 | n+1,i,h,hi=>by
  have h1:=List.all_eq_true.1 hs i (List.mem_range.2 hi);obtain ⟨j,hj,h2⟩:=List.any_eq_true.1 h1;have hjz:=List.mem_range.1 hj;rw [Bool.and_eq_true] at h2;obtain ⟨h3,h4⟩:=h2;have h3:=of_decide_eq_true h3;by_cases e:j=z
  ·subst e;unfold z3g at h4;rw [ho] at h4;simp only [Option.map_some,Option.getD_some,List.any_eq_true,Bool.and_eq_true,beq_iff_eq] at h4;obtain ⟨e,he1,he2,he3⟩:=h4;have:=ha e (by simpa using he1) he2
   rwa [he3] at this
  ·have hLj:=z3O hs hc ho ha n j (by omega) (by omega)
   cases hLi:L i with
   | true=>rfl
   | false=>rw [hc j i h4 hLi] at hLj;cases hLj
theorem z3k {listed:Array Bool} {j:Nat} (h:z1f ops (fun k=>listed.getD k false)) (hj:j ∈ Region.ready .any ops listed):z1f ops (fun k=>(listed.setIfInBounds j true).getD k false):=by
 obtain ⟨h0,o,ho,ha⟩:=mem_ready.1 hj
 have hlt:j < listed.size:=by
  rcases Nat.lt_or_ge j listed.size with h' | h'
  ·exact h'
  ·rw [Array.getD_eq_getD_getElem?,Array.getElem?_eq_none h'] at h0
   cases h0
 rw [z3e hlt];exact h.next ho ha
def z2F (P:Program) (ops:Array Oper) (C:World→Prop) (z:Nat) (R:Act→Prop):Nat→Array Bool→Act→Prop
 | 0,_,_=>False
 | fuel+1,listed,a=>Region.ready .any ops listed ≠ []∧∀ i ∈ Region.ready .any ops listed,if i=z then (fuel=0∧Region.ready .any ops (listed.setIfInBounds z true)=[]∧R a) else qOp P ops C i (z2F P ops C z R fuel (listed.setIfInBounds i true)) a
theorem z3l {Q:Exit→Act→World→Prop} {R:Act→Prop} {z:Nat} (hR:∀ a w,C w→R a→wpOp P ops Q z (fun a' w'=>Q .normal a' w') a w):∀ (fuel:Nat) (listed:Array Bool) (a:Act) (w:World),C w→z2F P ops C z R fuel listed a→wpAny P .any ops Q fuel listed a w
 | 0,_,_,_,_,h=>h.elim
 | fuel+1,listed,a,w,hw,h=>⟨fun h0=>absurd h0 h.1,fun i hi=>by
   have h2:=h.2 i hi;by_cases hz:i=z
   ·rw [if_pos hz] at h2;obtain ⟨h3,hr,hRa⟩:=h2;subst h3;subst hz;exact wpOp_mono (fun a' w' h'=>⟨hr,h'⟩) (hR a w hw hRa)
   ·rw [if_neg hz] at h2;exact wpOp_of_qOp hw (fun a' w' hw'=>z3l hR fuel _ a' w' hw') h2⟩
theorem z4l {R:Act→Prop} {z i:Nat} {oi:Oper} {v:Value} (hs:z42 ops z=true) (hi:ops[i]?=some oi) (hiz:i < z) (hsel:∀ (j:Nat) (o:Oper) cs b,ops[j]?=some o→o.op ≠ .select cs b) :
  ∀ (fuel:Nat) (listed:Array Bool) (a:Act),z1f ops (fun k=>listed.getD k false) →
   (∀ j oj,ops[j]?=some oj→j ≠ i→listed.getD j true=false→(∀ e ∈ oj.after,Region.binds .any e=true→e.on ≠ i)→oi.apart ops oj=true) →
   i ∈ Region.ready .any ops listed→YieldsIn P ops C oi v a →
   z2F P ops C z R fuel (listed.setIfInBounds i true) (a.put oi.dst v)→z2F P ops C z R (fuel+1) listed a:=by
 intro fuel
 induction fuel with
 | zero=>intro listed a _ _ _ _ H;exact H.elim
 | succ fuel ih =>
  intro listed a hcl hfree hr hy H;refine ⟨fun h=>(by rw [h] at hr;cases hr),fun j hj=>?_⟩;by_cases hji:j=i
  ·rw [if_neg (by omega)];subst hji;exact hy.qOp hi H
  ·have hjz:j ≠ z:=fun e=>by
    subst e;obtain ⟨_,o,ho,ha⟩:=mem_ready.1 hj;have h1:=z3O hs hcl ho ha _ i (Nat.le_refl _) hiz;have h0:=(mem_ready.1 hr).1
    rcases Nat.lt_or_ge i listed.size with h' | h'
    ·simp [h'] at h0 h1;rw [h0] at h1;cases h1
    ·simp [Array.getElem?_eq_none h'] at h1
   rw [if_neg hjz];have h1:=H.2 j (ready_mono hj hji);rw [if_neg hjz] at h1;obtain ⟨hjun,oj,hoj,hall⟩:=mem_ready.1 hj
   have hnot:∀ e ∈ oj.after,Region.binds .any e=true→e.on ≠ i:=fun e he hb heq=>by
    have h1:=hall e he hb;have h0:=(mem_ready.1 hr).1;rw [heq] at h1
    rcases Nat.lt_or_ge i listed.size with h' | h'
    ·simp [h'] at h0 h1;rw [h0] at h1;cases h1
    ·simp [Array.getElem?_eq_none h'] at h1
   have h2:=qOp_put hoj (hfree j oj hoj hji hjun hnot) (fun cs b=>hsel i oi cs b hi) (fun cs b=>hsel j oj cs b hoj) hy h1
   have hfree':∀ k ok,ops[k]?=some ok→k ≠ i→(listed.setIfInBounds j true).getD k true=false →
     (∀ e ∈ ok.after,Region.binds .any e=true→e.on ≠ i)→oi.apart ops ok=true:=fun k ok hk hki hun hno=>by
    refine hfree k ok hk hki ?_ hno;by_cases hjk:j=k
    ·subst hjk;exact hjun
    ·rw [getD_set_ne true hjk] at hun;exact hun
   refine qOp_mono (fun a' h3=>ih (listed.setIfInBounds j true) a' (z3k hcl hj) hfree' (ready_mono hr (Ne.symm hji)) h3.1 ?_) h2;rw [Array.setIfInBounds_comm _ _ hji];exact h3.2
theorem z3m {R:Act→Prop} {z:Nat} (hns:Region.noSelect ops=true) (hs:z42 ops z=true):∀ (l:List Oper) (k:Nat) (listed:Array Bool) (a:Act),k+l.length=z→(∀ j,j < l.length→l[j]?=ops[k+j]?)→z1f ops (fun k=>listed.getD k false) →
  Region.lexFrom .any ops (l.length+1) k listed=true→wpQuiet P ops C R l a→z2F P ops C z R (l.length+1) listed a
 | [],k,listed,a,hk,_,_,hB,h=>by
  simp only [List.length_nil,Region.lexFrom,Bool.and_eq_true] at hB;obtain ⟨⟨hr,_⟩,he⟩:=hB;have hk':k=z:=(by simpa using hk);subst hk';have hr':k ∈ Region.ready .any ops listed:=(by simpa using hr);have he':Region.ready .any ops (listed.setIfInBounds k true)=[]:=(by simpa using he);refine ⟨fun h=>(by rw [h] at hr';cases hr'),fun i hi=>?_⟩;by_cases hik:i=k
  ·rw [if_pos hik];exact ⟨rfl,he',h⟩
  ·have:=ready_mono hi hik;rw [he'] at this
   cases this
 | o :: l,k,listed,a,hk,hl,hcl,hB,h=>by
  have h0:ops[k]?=some o:=(by simpa using (hl 0 (by simp)).symm);simp only [List.length_cons] at hk hB ⊢;rw [Region.lexFrom] at hB;simp only [Bool.and_eq_true] at hB;obtain ⟨⟨hr,hf⟩,hB'⟩:=hB;have hr':k ∈ Region.ready .any ops listed:=(by simpa using hr);have hst:qOp P ops C k (wpQuiet P ops C R l) a:=(by unfold qOp;simp only [h0];exact h);obtain ⟨v,hy,hK⟩:=yieldsIn_of_qOp h0 hst
  exact z4l hs h0 (by omega) (Region.noSelect_spec hns) (l.length+1) listed a hcl (Region.free_spec h0 hf) hr' hy
   (z3m hns hs l (k+1) _ _ (by omega) (fun j hj=>by have:=hl (j+1) (by simpa using hj);simpa [Nat.add_assoc,Nat.add_comm 1 j] using this) (z3k hcl hr') hB' hK)
end
theorem z2k {P:Program} {id:Nat} {Q:Exit→Act→World→Prop} {a:Act} {w:World} {l:List Oper} (n:Nat) {o:Oper} (hm:P.follows .mixedOrders=true) (hl:l.length=n+1) (ho:l[n]?=some o) (hB:Region.lexB .any l.toArray=true) (hs:z42 l.toArray n=true)
  (h:wpQuiet P l.toArray (fun w'=>∃ p:BW w,w'=p.u) (fun a'=>∀ w',(∃ p:BW w,w'=p.u)→if Region.wanted o (yielded l.toArray a'.tmps)=true then o.wp P a' w' (fun a w=>Q .normal a w) Q else Q .normal (a'.put o.dst undef) w') (l.take n) a):(Code.region id l.toArray true).wp P Q a w:=by
 simp only [Region.lexB,Bool.and_eq_true] at hB;have hlt:(l.take n).length=n:=(by rw [List.length_take];omega);refine wp_region_any hm (z3l (C:=fun w'=>∃ p:BW w,w'=p.u) (z:=n) (R:=fun a'=>∀ w',(∃ p:BW w,w'=p.u)→if Region.wanted o (yielded l.toArray a'.tmps)=true then o.wp P a' w' (fun a w=>Q .normal a w) Q else Q .normal (a'.put o.dst undef) w') ?_ _ _ _ _ ⟨⟨_,z1O (Below.refl _ _)⟩,rfl⟩ ?_)
 ·intro a' w' hw' hR;have h1:=hR w' hw';unfold wpOp;rw [show l.toArray[n]?=some o by simpa using ho];dsimp only
  split
  ·rename_i hw;rw [if_pos hw] at h1;exact .inl h1
  ·rename_i hw;rw [if_neg hw] at h1;exact h1
 ·have:=z3m (P:=P) (C:=fun w'=>∃ p:BW w,w'=p.u) hB.1 hs (l.take n) 0 (Array.replicate l.toArray.size false) a (by omega) (fun j hj=>by rw [hlt] at hj;simp [hj]) (fun j i _ _=>by
   show (Array.replicate l.toArray.size false).getD j false=false;rw [Array.getD_eq_getD_getElem?,Array.getElem?_replicate]
   split <;> rfl) (by rw [hlt,← hl];simpa using hB.2) h
  rw [hlt,← hl] at this
  simpa using this
end
section
open Go.RowKit
theorem z5U {a b:Bool} (h:a=b):Ending.returned (.bool a)=.returned (.bool b):=by rw [h]
def z7F (row ins:Int) (x:GC):Bool:=(x.row == row) && (x.ins == ins)
def z08 (x first many:Int):Bool:=decide (first≤x) && decide (0 < many) && decide (x - first < many)
def z09 (row col:Int) (x:GC):Bool:=z08 row x.row x.rows && z08 col x.col x.cols
theorem z4m {w:World} {g:Nat} {o:Obj} (h:w.heap[g]?=some o):g < w.heap.size:=(bL h)
theorem z6l {x f:Int} (hx:-9223372036854775808≤x∧x≤9223372036854775807) (hf:-9223372036854775808≤f∧f≤9223372036854775807) (h:f≤x):IntKind.u64.wrap (IntKind.u64.wrap x - IntKind.u64.wrap f)=x - f:=by
 simp [IntKind.wrap,IntKind.bits,IntKind.signed];omega
theorem z2X (x f m:Int) (hx:I64 x) (hf:I64 f) (hm:I64 m) (w:World) :
  Calls Try.prog 111 #[.int .i64 f,.int .i64 m,.int .i64 x] w fun e w'=>e=.returned (.bool (z08 x f m))∧w'=w:=by
 unfold I64 at hx hf hm;by_cases h1:f≤x
 ·by_cases h2:0 < m
  ·have e:z08 x f m=decide (x - f < m):=(by simp [z08];omega);rw [e];go_enter Try.func111,Try.ntmps111;go_wp2;go_ret;exact ⟨z5U (by rw [z6l hx hf h1]),rfl⟩
  ·have e:z08 x f m=false:=(by simp [z08];omega);rw [e];go_enter Try.func111,Try.ntmps111;go_wp2;go_ret;exact ⟨rfl,rfl⟩
 ·have e:z08 x f m=false:=(by simp [z08];omega);rw [e];go_enter Try.func111,Try.ntmps111;go_wp2;go_ret;exact ⟨rfl,rfl⟩
structure Out (B D:Nat) (w w':World):Prop where
 below:Below B w w'
 block:∀ k,D≤k→k < w.heap.size→w'.heap[k]?=w.heap[k]?
theorem Out.refl (B D:Nat) (w:World):Out B D w w:=⟨Below.refl _ _,fun _ _ _=>rfl⟩
theorem Out.set {B D:Nat} {a w:World} (h:Out B D a w) {p:Addr} (h1:B≤p.block) (h2:p.block < D) (v:Value):Out B D a (w.setCell p v) :=
 ⟨h.below.setCell h1 v,fun k h3 h4=>(Below.heap_setCell _ _ _ _ (by omega)).trans (h.block k h3 h4)⟩
theorem Out.drewN {B D:Nat} {a w:World} (h:Out B D a w) (n:Nat):Out B D a (w.drewN n):=⟨⟨h.below.os,h.below.tape,h.below.output,h.below.size,h.below.block⟩,h.block⟩
def z1z (w:World) (v:Value) (l:List Int):Prop :=
 ∃ (a:Option Addr) (cap:Nat),v=.slice a l.length cap∧l.length≤cap∧cap≤maxLen∧∀ i,i < l.length→∃ b off,a=some ⟨b,off,none⟩∧b < w.heap.size∧w.cell? ⟨b,off+i,none⟩=some (.int .i64 (l.getD i 0))
theorem z1z.form {w:World} {v:Value} {l:List Int} (h:z1z w v l):∃ a cap,v=.slice a l.length cap∧l.length≤9223372036854775807:=by
 obtain ⟨a,cap,hv,h1,h2,_⟩:=h;unfold maxLen at h2;exact ⟨a,cap,hv,by omega⟩
theorem z1z.get {w:World} {v:Value} {l:List Int} (h:z1z w v l) {i:Nat} (hi:i < l.length) :
  ∃ b off cap,v=.slice (some ⟨b,off,none⟩) l.length cap∧l.length≤cap∧cap≤maxLen∧b < w.heap.size∧w.cell? ⟨b,off+i,none⟩=some (.int .i64 (l.getD i 0)):=by
 obtain ⟨a,cap,hv,h1,h2,h3⟩:=h;obtain ⟨b,off,rfl,h4,h5⟩:=h3 i hi;exact ⟨b,off,cap,hv,h1,h2,h4,h5⟩
theorem z1z.kept {w w':World} {v:Value} {l:List Int} (h:z1z w v l) (k:Below w.heap.size w w'):z1z w' v l:=by
 obtain ⟨a,cap,hv,h1,h2,h3⟩:=h;refine ⟨a,cap,hv,h1,h2,fun i hi=>?_⟩;obtain ⟨b,off,h4,h5,h6⟩:=h3 i hi;exact ⟨b,off,h4,Nat.lt_of_lt_of_le h5 k.size,(k.cell (p:=⟨b,off+i,none⟩) h5).trans h6⟩
def z0L (w:World) (B D:Nat) (v:Value) (l:List Int):Prop :=
 (v=.slice none 0 0∧l=[])∨∃ g cap cur,v=.slice (some ⟨g,0,none⟩) l.length cap∧B≤g∧g < D∧w.heap[g]?=some (.cells cur 3 (0,0))∧l.length≤cap∧cap≤maxLen∧cur.size=cap∧∀ i,i < l.length→cur[i]?=some (.int .i64 (l.getD i 0))
theorem z0L.owns {w:World} {B D:Nat} {v:Value} {l:List Int} (h:z0L w B D v l):w.ownsRow B 3 1 v l.length (l.map (Value.int .i64)):=by
 refine ⟨by simp,?_⟩
 rcases h with ⟨hv,rfl⟩ | ⟨g,cap,cur,hv,hb,hd,hg,h1,h2,h3,h4⟩
 ·exact .inl ⟨hv,rfl⟩
 ·refine .inr ⟨g,cap,cur,hv,hb,hg,h1,h2,by omega,?_⟩;apply List.ext_getElem?;intro i;by_cases hi:i < l.length
  ·rw [List.getElem?_take_of_lt (by omega),Array.getElem?_toList,h4 i hi];simp [List.getD,hi]
  ·rw [List.getElem?_eq_none (by simp;omega),List.getElem?_eq_none (by simp;omega)]
theorem z0L.at {w:World} {B D:Nat} {v:Value} {l:List Int} (h:z0L w B D v l):z1z w v l:=by
 rcases h with ⟨rfl,rfl⟩ | ⟨g,cap,cur,hv,hb,hd,hg,h1,h2,h3,h4⟩
 ·exact ⟨none,0,rfl,Nat.le_refl _,Nat.zero_le _,fun i hi=>absurd hi (Nat.not_lt_zero _)⟩
 ·exact ⟨_,cap,hv,h1,h2,fun i hi=>⟨g,0,rfl,(bL hg),by rw [Nat.zero_add];exact (zc hg).trans (h4 i hi)⟩⟩
theorem z0L.kept {w w':World} {B D:Nat} {v:Value} {l:List Int} (h:z0L w B D v l) (k:∀ j,j < w.heap.size→B≤j→j < D→w'.heap[j]?=w.heap[j]?):z0L w' B D v l:=by
 rcases h with h | ⟨g,cap,cur,hv,hb,hd,hg,r⟩
 ·exact .inl h
 ·exact .inr ⟨g,cap,cur,hv,hb,hd,(k g (bL hg) hb hd).trans hg,r⟩
theorem z0L.below {w w':World} {B D C:Nat} {v:Value} {l:List Int} (h:z0L w B D v l) (k:Below C w w') (hC:D≤C):z0L w' B D v l :=
 h.kept (fun j _ _ h2=>k.block j (Nat.lt_of_lt_of_le h2 hC))
theorem z0L.base {w:World} {B B' D D':Nat} {v:Value} {l:List Int} (h:z0L w B D v l) (hB:B'≤B) (hD:D≤D'):z0L w B' D' v l:=by
 rcases h with h | ⟨g,cap,cur,hv,hb,hd,r⟩
 ·exact .inl h
 ·exact .inr ⟨g,cap,cur,hv,Nat.le_trans hB hb,Nat.lt_of_lt_of_le hd hD,r⟩
theorem z0L.form {w:World} {B D:Nat} {v:Value} {l:List Int} (h:z0L w B D v l):∃ a cap,v=.slice a l.length cap:=by
 rcases h with ⟨rfl,rfl⟩ | ⟨g,cap,cur,hv,_⟩
 ·exact ⟨none,0,rfl⟩
 ·exact ⟨_,_,hv⟩
theorem z0L.get {w:World} {B D:Nat} {v:Value} {l:List Int} (h:z0L w B D v l) {i:Nat} (hi:i < l.length) :
  ∃ g cap,v=.slice (some ⟨g,0,none⟩) l.length cap∧B≤g∧g < D∧g < w.heap.size∧l.length≤cap∧cap≤maxLen∧w.cell? ⟨g,i,none⟩=some (.int .i64 (l.getD i 0))∧w.frozen? ⟨g,i,none⟩=false:=by
 rcases h with ⟨_,rfl⟩ | ⟨g,cap,cur,hv,hb,hd,hg,h1,h2,h3,h4⟩
 ·cases hi
 ·exact ⟨g,cap,hv,hb,hd,(bL hg),h1,h2,(zc hg).trans (h4 i hi),zn hg⟩
theorem z0L.set {w:World} {B D g cap n:Nat} {l:List Int} (h:z0L w B D (.slice (some ⟨g,0,none⟩) n cap) l) {i:Nat} (hi:i < l.length) (x:Int):z0L (w.setCell ⟨g,i,none⟩ (.int .i64 x)) B D (.slice (some ⟨g,0,none⟩) n cap) (l.set i x):=by
 rcases h with ⟨hv,_⟩ | ⟨g',cap',cur,hv,hb,hd,hg,h1,h2,h3,h4⟩
 ·simp at hv
 ·simp only [Value.slice.injEq,Option.some.injEq,Addr.mk.injEq,and_true] at hv;obtain ⟨rfl,rfl,rfl⟩:=hv;refine .inr ⟨g,cap,cur.setIfInBounds i (.int .i64 x),by simp,hb,hd,zL hg _,by simpa using h1,h2,by simpa using h3,fun j hj=>?_⟩;rw [List.length_set] at hj;by_cases e:i=j
  ·subst e;simp [List.getD,hj,show i < cur.size by omega]
  ·rw [Array.getElem?_setIfInBounds_ne e,h4 j hj];simp [List.getD,e]
theorem z0L.out {w w':World} {B D B' D':Nat} {v:Value} {l:List Int} (h:z0L w B D v l) (k:Out B' D' w w') (hd:D≤B'∨D'≤B):z0L w' B D v l :=
 h.kept (fun j h0 h1 h2=>by rcases hd with hd | hd;exact k.below.block j (by omega);exact k.block j (by omega) h0)
theorem z5X (a b:Int) (ac:Option Addr) (cc:Nat) (gs:List GC) (row col:Int) (hr:I64 row) (hc:I64 col) (w:World) {z:Nat} (h:z03 w z (.slice ac gs.length cc) gs) :
  Calls Try.prog 100 #[.agg #[.int .i64 a,.int .i64 b,.slice ac gs.length cc],.int .i64 row,.int .i64 col] w fun e w'=>e=.returned (.int .i64 (z0O (z09 row col) gs))∧Below w.heap.size w w':=by
 obtain ⟨_,_,_,hlen⟩:=At.form h;unfold maxLen at hlen;have H:=Hd h;clear h;go_enter Try.func100,Try.ntmps100;go_wp2_with fail
 go_loopw [12] (fun i W=>∃ k:Nat,k≤gs.length∧i=.int .i64 k∧Hid (∀ j,j < k→z09 row col (gs.getD j dG)=false)∧Hid (Below w.heap.size w W)) (fun i _=>gs.length - (intOf i).toNat)
 case atStart=>exact ⟨0,Nat.zero_le _,rfl,fun j hj=>absurd hj (Nat.not_lt_zero _),zb (Below.refl _ _) _⟩
 case round =>
  obtain ⟨k,hk,rfl,HA,HB⟩:=hrel;by_cases hlt:k < gs.length
  ·obtain ⟨q,off,cap',e',hc1,hc2,hbl,hx,hs⟩:=At.get (H.out.kept HB.out) hlt;simp only [Value.slice.injEq,true_and] at e';obtain ⟨rfl,rfl⟩:=e';have HH:Hid (z09 row col (gs.getD k dG)=true→z0O (z09 row col) gs=(k:Int)):=fun hp=>z36 hlt HA.out hp
   have HN:Hid (z09 row col (gs.getD k dG)=false→∀ j,j < k+1→z09 row col (gs.getD j dG)=false):=fun hp j hj=>by
    rcases Nat.lt_or_eq_of_le (Nat.lt_succ_iff.1 hj) with h1 | rfl
    ·exact HA.out j h1
    ·exact hp
   generalize gs.getD k dG=x at hx hs HH HN;obtain ⟨x0,x1,x2,x3,x4⟩:=hx;obtain ⟨b0,b1,b2,b3,_⟩:=hs;have H1:=Hd (z2X row x.row x.rows hr b0 b2);have H2:=Hd (z2X col x.col x.cols hc b1 b3);unfold maxLen at hc2;clear b0 b1 b2 b3
   cases h1:z08 row x.row x.rows with
   | false =>
    have HF:=Hd (HN.out (by simp only [z09,h1,Bool.false_and]));rw [h1] at H1;clear HH HN HA;go_wp2_with fail
    refine (H1.out _).mono ?_;rintro e w1 ⟨rfl,rfl⟩;go_wp2;go_roundw
    case rel=>exact ⟨k+1,by omega,by go_num,HF,zb HB.out _⟩
    case measure=>simp [intOf];omega
   | true =>
    rw [h1] at H1
    cases h2:z08 col x.col x.cols with
    | false =>
     have HF:=Hd (HN.out (by simp only [z09,h2,Bool.and_false]));rw [h2] at H2;clear HH HN HA;go_wp2_with fail
     refine (H1.out _).mono ?_;rintro e w1 ⟨rfl,rfl⟩;go_wp2_with fail
     refine (H2.out _).mono ?_;rintro e w1 ⟨rfl,rfl⟩;go_wp2;go_roundw
     case rel=>exact ⟨k+1,by omega,by go_num,HF,zb HB.out _⟩
     case measure=>simp [intOf];omega
    | true =>
     have HF:=Hd (HH.out (by simp only [z09,h1,h2,Bool.and_self]));rw [h2] at H2;clear HH HN HA;go_wp2_with fail
     refine (H1.out _).mono ?_;rintro e w1 ⟨rfl,rfl⟩;go_wp2_with fail
     refine (H2.out _).mono ?_;rintro e w1 ⟨rfl,rfl⟩;go_wp2;go_ret;exact ⟨by rw [HF.out];rfl,zb HB.out _⟩
  ·obtain rfl:k=gs.length:=by omega
   have HF:=Hd (z2O HA.out);clear HA;go_wp2;go_ret;exact ⟨by rw [HF.out];rfl,HB.out⟩
theorem z5Y (a b c d:Int) (w:World) :
  Calls Try.prog 112 #[.agg #[.int .i64 a,.int .i64 b],.agg #[.int .i64 c,.int .i64 d]] w fun e w'=>e=.returned (.bool (z0J a b c d))∧w'=(w.alloc (.cells #[.int .i64 a,.int .i64 b] 30)).alloc (.cells #[.int .i64 c,.int .i64 d] 30):=by
 by_cases ha:a=4
 ·subst ha;by_cases hc:c=4
  ·subst hc;have HB:=Hd (z1R (a:=4) b d);go_enter Try.func112,Try.ntmps112;go_wp2;go_ret;exact ⟨zr HB.out.symm,rfl⟩
  ·have e1:(c == 4)=false:=beq_eq_false_iff_ne.2 hc;have e2:(c != 4)=true:=bne_iff_ne.2 hc;have HB:=Hd (z34 b d hc);clear hc;go_enter Try.func112,Try.ntmps112;go_wp2;go_ret;exact ⟨zr HB.out.symm,rfl⟩
 have a1:(a == 4)=false:=beq_eq_false_iff_ne.2 ha;by_cases hc:c=4
 ·subst hc;have HB:=Hd (z1R (a:=a) b d);clear ha;go_enter Try.func112,Try.ntmps112;go_wp2;go_ret;exact ⟨zr HB.out.symm,rfl⟩
 have e1:(c == 4)=false:=beq_eq_false_iff_ne.2 hc;by_cases h:b=d
 ·subst h;have HB:=Hd (z2N (b:=b) ha hc);clear ha hc;go_enter Try.func112,Try.ntmps112;go_wp2;go_ret;exact ⟨zr HB.out.symm,rfl⟩
 ·have h1:(b != d)=true:=bne_iff_ne.2 h;have HB:=Hd (z35 ha hc h);clear ha hc h;go_enter Try.func112,Try.ntmps112;go_wp2;go_ret;exact ⟨zr HB.out.symm,rfl⟩
theorem z5e (a b c d:Int) (w:World):Calls Try.prog 112 #[.agg #[.int .i64 a,.int .i64 b],.agg #[.int .i64 c,.int .i64 d]] w fun e w'=>e=.returned (.bool (z0J a b c d))∧Below w.heap.size w w':=(z5Y a b c d w).mono (fun _ _ ⟨h1,h2⟩=>⟨h1,by rw [h2];exact zb (zb (Below.refl _ _) _) _⟩)
theorem z1V (v:Value) (l:List Fr) (hl:l.length≤1048576) (w:World) {z:Nat} (h:z0V w z v l) :
  Calls Try.prog 101 #[v] w fun e w'=>e=.returned (.agg #[.int .i64 (zJ l).s,.int .i64 (zJ l).w,.int .i64 (zJ l).c])∧Below w.heap.size w w':=by
 obtain ⟨a,cap,rfl,hlen⟩:=At.form h;by_cases h0:l.length=0
 ·obtain rfl:l=[]:=List.eq_nil_of_length_eq_zero h0;clear h;go_enter Try.func101,Try.ntmps101;go_wp2;exact bodyPost_ret (v:=.agg #[.int .i64 0,.int .i64 0,.int .i64 (-1)]) (by simp [results,Try.results101,go_sem]) rfl ⟨rfl,by repeat (first | exact Below.refl _ _ | apply zb)⟩
 obtain ⟨n,hn⟩:∃ n,l.length=n+1:=⟨l.length - 1,by omega⟩;have hK0:=zb (Below.refl w.heap.size w) (.cells #[.int .i64 0,.int .i64 0,.int .i64 0] 62);have HA:=Hd (h.kept hK0);have X0:=zf w (.cells #[.int .i64 0,.int .i64 0,.int .i64 0] 62);have hs0:(w.alloc (.cells #[.int .i64 0,.int .i64 0,.int .i64 0] 62)).heap.size=w.heap.size+1:=(by simp);obtain ⟨b,off,cap',e',hc1,hc2,hbl,x0,x1,x2⟩:=At.get (h.kept hK0) (i:=0) (by omega);simp only [Value.slice.injEq,true_and] at e';obtain ⟨rfl,rfl⟩:=e';rw [hn] at hc1 ⊢;unfold maxLen at hc2;have HB0:Hid (l.getD 0 dF=zo l 1):=(by rw [Hid,zo,if_pos rfl]);have HK0:=Hd hK0;have HX0:=Hd X0;have HN:=Hd hn;have hne:(((n:Int)+1) == 0)=false:=beq_eq_false_iff_ne.2 (by omega);rw [HB0.out] at x0 x1 x2;rw [Nat.zero_mul,Nat.add_zero] at x0 x1 x2;have h0:=h;clear h hn hlen hK0 X0;go_enter Try.func101,Try.ntmps101;go_upto_region 3 with fail
 generalize w.alloc (.cells #[.int .i64 0,.int .i64 0,.int .i64 0] 62)=W0 at HA hs0 hbl x0 x1 x2 HK0 HX0 ⊢;have HX1:=Hd (zf W0 (.cells #[.int .i64 (zo l 1).s,.int .i64 (zo l 1).w,.int .i64 (zo l 1).c] 62));have HZ1:=Hd ((Below.heap_alloc W0 (.cells #[.int .i64 (zo l 1).s,.int .i64 (zo l 1).w,.int .i64 (zo l 1).c] 62) w.heap.size (by omega)).trans HX0.out);have HK1:=Hd (zb HK0.out (.cells #[.int .i64 (zo l 1).s,.int .i64 (zo l 1).w,.int .i64 (zo l 1).c] 62));have HA1:=Hd (HA.out.kept (zb (Below.refl _ _) (.cells #[.int .i64 (zo l 1).s,.int .i64 (zo l 1).w,.int .i64 (zo l 1).c] 62)));rw [hs0] at HX1;go_upto_region 4 with fail
 generalize W0.alloc (.cells #[.int .i64 (zo l 1).s,.int .i64 (zo l 1).w,.int .i64 (zo l 1).c] 62)=W1 at HX1 HZ1 HK1 HA1 ⊢;clear HA x0 x1 x2 HK0 HX0 hs0 hbl;by_cases hcap:cap=1
 ·subst hcap;obtain rfl:n=0:=by omega
  have HX:=HX1;have HZ:=HZ1;have HK:=HK1;go_wp2_with fail
  go_loopw [16] (fun s W=>s=.int .i64 0∧Hid (W=W1)) (fun _ _=>0)
  case atStart=>exact ⟨rfl,rfl⟩
  case round =>
   obtain ⟨rfl,HW⟩:=hrel;obtain rfl:=HW.out;obtain ⟨⟨c0,c1,c2⟩,_⟩:=zy HX.out;obtain ⟨⟨d0,d1,d2⟩,f0,f1,f2⟩:=zy HZ.out;have HBl:Hid (Below w.heap.size w (st3 _ w.heap.size (.int .i64 (zo l 1).s) (.int .i64 (zo l 1).w) (.int .i64 (zo l 1).c))):=HK.out.trans ((z0g _ _ _ _ _).below HK.out.size (Nat.le_refl _));have HE:Hid (zJ l=zo l 1):=(by rw [Hid,zJ,HN.out]);generalize zo l 1=y at *;go_wp2;exact bodyPost_ret (v:=.agg #[.int .i64 y.s,.int .i64 y.w,.int .i64 y.c]) (by simp [results,Try.results101,go_sem,d0,d1,d2]) rfl ⟨by rw [HE.out],HBl.out⟩
 ·have hc3:(n:Int)+1≤(cap:Int):=(by omega);go_wp2_with fail
  go_loopw [16] (fun s W=>∃ k:Nat,s=.int .i64 k∧k≤n∧Hid (W.heap[w.heap.size+1]?=some (.cells #[.int .i64 (zo l (k+1)).s,.int .i64 (zo l (k+1)).w,.int .i64 (zo l (k+1)).c] 62))∧Hid (W.heap[w.heap.size]?=some (.cells #[.int .i64 0,.int .i64 0,.int .i64 0] 62))∧Hid (Below w.heap.size w W)) (fun s _=>n - (intOf s).toNat)
  case atStart=>exact ⟨0,rfl,Nat.zero_le _,HX1,HZ1,HK1⟩
  case round =>
   obtain ⟨k,rfl,hk,HX,HZ,HK⟩:=hrel;by_cases hlt:k < n
   case neg =>
    obtain rfl:k=n:=by omega
    obtain ⟨⟨c0,c1,c2⟩,_⟩:=zy HX.out;obtain ⟨⟨d0,d1,d2⟩,f0,f1,f2⟩:=zy HZ.out;have HBl:Hid (Below w.heap.size w (st3 _ w.heap.size (.int .i64 (zo l (k+1)).s) (.int .i64 (zo l (k+1)).w) (.int .i64 (zo l (k+1)).c))):=HK.out.trans ((z0g _ _ _ _ _).below HK.out.size (Nat.le_refl _));have HE:Hid (zJ l=zo l (k+1)):=(by rw [Hid,zJ,HN.out]);generalize zo l (k+1)=y at *;go_wp2;exact bodyPost_ret (v:=.agg #[.int .i64 y.s,.int .i64 y.w,.int .i64 y.c]) (by simp [results,Try.results101,go_sem,d0,d1,d2]) rfl ⟨by rw [HE.out],HBl.out⟩
   case pos =>
    obtain ⟨b',off',cap'',e',_,_,hbl,x0,x1,x2⟩:=At.get (h0.kept HK.out) (i:=k+1) (by rw [HN.out];omega);rw [HN.out] at e';simp only [Value.slice.injEq,Option.some.injEq,Addr.mk.injEq,and_true,true_and] at e';obtain ⟨⟨rfl,rfl⟩,rfl⟩:=e';rw [show off+(k+1) * 3=off+3+k * 3 by omega] at x0 x1 x2;have HY:=Hd (fun h=>z50 (l:=l) (k:=k) h);have HNo:=Hd (fun h=>z5p (l:=l) (k:=k) h);generalize l.getD (k+1) dF=p at x0 x1 x2 HY HNo;have hwz:w.heap.size+1 < wr.heap.size:=(bL HX.out);have HP:=Hd (zf wr (.cells #[.int .i64 p.s,.int .i64 p.w,.int .i64 p.c] 62));have HX2:=Hd ((Below.heap_alloc wr (.cells #[.int .i64 p.s,.int .i64 p.w,.int .i64 p.c] 62) (w.heap.size+1) hwz).trans HX.out);have HZ2:=Hd ((Below.heap_alloc wr (.cells #[.int .i64 p.s,.int .i64 p.w,.int .i64 p.c] 62) w.heap.size (by omega)).trans HZ.out);have HK2:=Hd (zb HK.out (.cells #[.int .i64 p.s,.int .i64 p.w,.int .i64 p.c] 62));clear HX HZ HK;go_upto_region 7 with fail
    generalize wr.alloc (.cells #[.int .i64 p.s,.int .i64 p.w,.int .i64 p.c] 62)=W3 at HP HX2 HZ2 HK2 ⊢;generalize wr.heap.size=pb at HP hwz ⊢;clear x0 x1 x2 hbl;obtain ⟨⟨c0,c1,c2⟩,_⟩:=zy HX2.out;obtain ⟨⟨p0,p1,p2⟩,_⟩:=zy HP.out;generalize hy:zo l (k+1)=y at *;have HBt:Hid (btF p y=z0J p.s p.w y.s y.w):=rfl;go_wp2_with fail
    refine (z5e _ _ _ _ _).mono ?_;rintro e w4 ⟨rfl,hb4⟩;have hpb:=(bL HP.out);have hxb:=(bL HX2.out);have HX4:=Hd ((hb4.block _ hxb).trans HX2.out);have HZ4:=Hd ((hb4.block _ (by omega)).trans HZ2.out);have HP4:=Hd ((hb4.block _ hpb).trans HP.out);have HK4:=Hd (ze HK2.out hb4);clear hb4 HX2 HZ2 HP HK2 c0 c1 c2 p0 p1 p2 hpb hxb
    cases hbt:z0J p.s p.w y.s y.w with
    | false =>
     have HE:=Hd (HNo.out (HBt.out.trans hbt));go_wp2;go_roundw
     case rel=>exact ⟨k+1,by go_num,by omega,by rw [HE.out];exact HX4,HZ4,HK4⟩
     case measure=>simp [intOf];omega
    | true =>
     have HE:=Hd (HY.out (HBt.out.trans hbt));obtain ⟨⟨c0,c1,c2⟩,f0,f1,f2⟩:=zy HX4.out;obtain ⟨⟨p0,p1,p2⟩,_⟩:=zy HP4.out;have HX5:=Hd (z43 HX4.out (.int .i64 p.s) (.int .i64 p.w) (.int .i64 p.c));have hbk:=z0g w4 (w.heap.size+1) (.int .i64 p.s) (.int .i64 p.w) (.int .i64 p.c);have HZ5:=Hd ((hbk.block w.heap.size (bL HZ4.out) (by omega)).trans HZ4.out);have HK5:=Hd (HK4.out.trans (hbk.below HK4.out.size (by omega)));clear HX4 HZ4 HP4 HK4 hbk;go_wp2;go_roundw
     case rel=>exact ⟨k+1,by go_num,by omega,by rw [HE.out];exact HX5,HZ5,HK5⟩
     case measure=>simp [intOf];omega
theorem z4s (a b c d:Int) (w:World) :
  Calls Try.prog 105 #[.agg #[.int .i64 a,.int .i64 b],.agg #[.int .i64 c,.int .i64 d]] w fun e w'=>e=.returned (.bool (z0J a b c d))∧w'=(w.alloc (.cells #[.int .i64 a,.int .i64 b] 30)).alloc (.cells #[.int .i64 c,.int .i64 d] 30):=by
 by_cases ha:a=4
 ·subst ha;by_cases hc:c=4
  ·subst hc;have HB:=Hd (z1R (a:=4) b d);go_enter Try.func105,Try.ntmps105;go_wp2;go_ret;exact ⟨zr HB.out.symm,rfl⟩
  ·have e1:(c == 4)=false:=beq_eq_false_iff_ne.2 hc;have e2:(c != 4)=true:=bne_iff_ne.2 hc;have HB:=Hd (z34 b d hc);clear hc;go_enter Try.func105,Try.ntmps105;go_wp2;go_ret;exact ⟨zr HB.out.symm,rfl⟩
 have a1:(a == 4)=false:=beq_eq_false_iff_ne.2 ha;by_cases hc:c=4
 ·subst hc;have HB:=Hd (z1R (a:=a) b d);clear ha;go_enter Try.func105,Try.ntmps105;go_wp2;go_ret;exact ⟨zr HB.out.symm,rfl⟩
 have e1:(c == 4)=false:=beq_eq_false_iff_ne.2 hc;by_cases h:b=d
 ·subst h;have HB:=Hd (z2N (b:=b) ha hc);clear ha hc;go_enter Try.func105,Try.ntmps105;go_wp2;go_ret;exact ⟨zr HB.out.symm,rfl⟩
 ·have h1:(b != d)=true:=bne_iff_ne.2 h;have HB:=Hd (z35 ha hc h);clear ha hc h;go_enter Try.func105,Try.ntmps105;go_wp2;go_ret;exact ⟨zr HB.out.symm,rfl⟩
end
end Go.Proofs.Ytggmjiddadjilam
