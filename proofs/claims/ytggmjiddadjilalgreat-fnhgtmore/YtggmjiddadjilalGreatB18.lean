/-
  PROVED HERE: what is as it was but the blocks from one number on up to another one. Also: 19 more texts of the same proof.
-/
import Derived.Test.YtggmjiddadjilalGreatB12
import Derived.Laws.CopyOwn
import Derived.Shelf.Bits.Mul64
import Derived.Shelf.Lay
import Derived.Deep.Cut
set_option maxRecDepth 1000000
set_option maxHeartbeats 40000000
namespace Go.Proofs.YtggmjiddadjilalGreat
open Value (int)
open IntKind (i64)
section
open Go.RowKit
structure Out (B D:Nat) (w w':World):Prop where
 below:Below B w w'
 block:∀ k,D<=k->k < w.heap.size->w'.heap[k]?=w.heap[k]?
theorem Out.refl (B D:Nat) (w:World):Out B D w w:=⟨Below.refl _ _,fun _ _ _=>rfl⟩
theorem Out.set {B D:Nat} {a w:World} (h:Out B D a w) {p:Addr} (h1:B<=p.block) (h2:p.block < D) (v:Value):Out B D a (w.setCell p v) :=
 ⟨h.below.setCell h1 v,fun k h3 h4=>(Below.heap_setCell _ _ _ _ (by omega)).trans (h.block k h3 h4)⟩
theorem Out.drewN {B D:Nat} {a w:World} (h:Out B D a w) (n:Nat):Out B D a (w.drewN n):=⟨⟨h.below.os,h.below.tape,h.below.output,h.below.size,h.below.block⟩,h.block⟩
def z0g (w:World) (v:Value) (l:List Int):Prop :=
 ∃ (a:Option Addr) (cap:Nat),v=.slice a l.length cap/\l.length<=cap/\cap<=maxLen/\∀ i,i < l.length->∃ b off,a=some ⟨b,off,none⟩/\b < w.heap.size/\w.cell? ⟨b,off+i,none⟩=some (int i64 (l.getD i 0))
theorem z0g.form {w:World} {v:Value} {l:List Int} (h:z0g w v l):∃ a cap,v=.slice a l.length cap/\l.length<=9223372036854775807:=by
 obtain ⟨a,cap,hv,h1,h2,_⟩:=h;unfold maxLen at h2;exact ⟨a,cap,hv,by omega⟩
theorem z0g.get {w:World} {v:Value} {l:List Int} (h:z0g w v l) {i:Nat} (hi:i < l.length) :
  ∃ b off cap,v=.slice (some ⟨b,off,none⟩) l.length cap/\l.length<=cap/\cap<=maxLen/\b < w.heap.size/\w.cell? ⟨b,off+i,none⟩=some (int i64 (l.getD i 0)):=by
 obtain ⟨a,cap,hv,h1,h2,h3⟩:=h;obtain ⟨b,off,rfl,h4,h5⟩:=h3 i hi;exact ⟨b,off,cap,hv,h1,h2,h4,h5⟩
theorem z0g.kept {w w':World} {v:Value} {l:List Int} (h:z0g w v l) (k:Below w.heap.size w w'):z0g w' v l:=by
 obtain ⟨a,cap,hv,h1,h2,h3⟩:=h;refine ⟨a,cap,hv,h1,h2,fun i hi=>?_⟩;obtain ⟨b,off,h4,h5,h6⟩:=h3 i hi;exact ⟨b,off,h4,Nat.lt_of_lt_of_le h5 k.size,(k.cell (p:=⟨b,off+i,none⟩) h5).trans h6⟩
def zH (w:World) (B D:Nat) (v:Value) (l:List Int):Prop :=
 (v=.slice none 0 0/\l=[])\/∃ g cap cur,v=.slice (some ⟨g,0,none⟩) l.length cap/\B<=g/\g < D/\w.heap[g]?=some (.cells cur 3 (0,0))/\l.length<=cap/\cap<=maxLen/\cur.size=cap/\∀ i,i < l.length->cur[i]?=some (int i64 (l.getD i 0))
theorem zH.of_owns {w:World} {B:Nat} {v:Value} {l:List Int} (h:w.ownsRow B 3 1 v l.length (l.map (Value.int .i64))):zH w B w.heap.size v l:=by
 rcases h.2 with ⟨hv,h0⟩ | ⟨g,cap,cur,hv,hb,hg,h1,h2,h3,h4⟩
 ·exact .inl ⟨hv,List.eq_nil_of_length_eq_zero h0⟩
 ·refine .inr ⟨g,cap,cur,hv,hb,(bL hg),hg,h1,h2,by omega,fun i hi=>?_⟩;have:cur.toList[i]?=(l.map (Value.int .i64))[i]?:=(by rw [<-h4,List.getElem?_take_of_lt (by omega)]);rw [<-Array.getElem?_toList,this];simp [List.getD,hi]
theorem zH.owns {w:World} {B D:Nat} {v:Value} {l:List Int} (h:zH w B D v l):w.ownsRow B 3 1 v l.length (l.map (Value.int .i64)):=by
 refine ⟨by simp,?_⟩
 rcases h with ⟨hv,rfl⟩ | ⟨g,cap,cur,hv,hb,hd,hg,h1,h2,h3,h4⟩
 ·exact .inl ⟨hv,rfl⟩
 ·refine .inr ⟨g,cap,cur,hv,hb,hg,h1,h2,by omega,?_⟩;apply List.ext_getElem?;intro i;by_cases hi:i < l.length
  ·rw [List.getElem?_take_of_lt (by omega),Array.getElem?_toList,h4 i hi];simp [List.getD,hi]
  ·rw [List.getElem?_eq_none (by simp;omega),List.getElem?_eq_none (by simp;omega)]
theorem zH.at {w:World} {B D:Nat} {v:Value} {l:List Int} (h:zH w B D v l):z0g w v l:=by
 rcases h with ⟨rfl,rfl⟩ | ⟨g,cap,cur,hv,hb,hd,hg,h1,h2,h3,h4⟩
 ·exact ⟨none,0,rfl,Nat.le_refl _,Nat.zero_le _,fun i hi=>absurd hi (Nat.not_lt_zero _)⟩
 ·exact ⟨_,cap,hv,h1,h2,fun i hi=>⟨g,0,rfl,(bL hg),by rw [Nat.zero_add];exact (zf hg).trans (h4 i hi)⟩⟩
theorem zH.kept {w w':World} {B D:Nat} {v:Value} {l:List Int} (h:zH w B D v l) (k:∀ j,j < w.heap.size->B<=j->j < D->w'.heap[j]?=w.heap[j]?):zH w' B D v l:=by
 rcases h with h | ⟨g,cap,cur,hv,hb,hd,hg,r⟩
 ·exact .inl h
 ·exact .inr ⟨g,cap,cur,hv,hb,hd,(k g (bL hg) hb hd).trans hg,r⟩
theorem zH.below {w w':World} {B D C:Nat} {v:Value} {l:List Int} (h:zH w B D v l) (k:Below C w w') (hC:D<=C):zH w' B D v l :=
 h.kept (fun j _ _ h2=>k.block j (Nat.lt_of_lt_of_le h2 hC))
theorem zH.base {w:World} {B B' D D':Nat} {v:Value} {l:List Int} (h:zH w B D v l) (hB:B'<=B) (hD:D<=D'):zH w B' D' v l:=by
 rcases h with h | ⟨g,cap,cur,hv,hb,hd,r⟩
 ·exact .inl h
 ·exact .inr ⟨g,cap,cur,hv,Nat.le_trans hB hb,Nat.lt_of_lt_of_le hd hD,r⟩
theorem zH.form {w:World} {B D:Nat} {v:Value} {l:List Int} (h:zH w B D v l):∃ a cap,v=.slice a l.length cap:=by
 rcases h with ⟨rfl,rfl⟩ | ⟨g,cap,cur,hv,_⟩
 ·exact ⟨none,0,rfl⟩
 ·exact ⟨_,_,hv⟩
theorem zH.get {w:World} {B D:Nat} {v:Value} {l:List Int} (h:zH w B D v l) {i:Nat} (hi:i < l.length) :
  ∃ g cap,v=.slice (some ⟨g,0,none⟩) l.length cap/\B<=g/\g < D/\g < w.heap.size/\l.length<=cap/\cap<=maxLen/\w.cell? ⟨g,i,none⟩=some (int i64 (l.getD i 0))/\w.frozen? ⟨g,i,none⟩=false:=by
 rcases h with ⟨_,rfl⟩ | ⟨g,cap,cur,hv,hb,hd,hg,h1,h2,h3,h4⟩
 ·cases hi
 ·exact ⟨g,cap,hv,hb,hd,(bL hg),h1,h2,(zf hg).trans (h4 i hi),zr hg⟩
theorem zH.set {w:World} {B D g cap n:Nat} {l:List Int} (h:zH w B D (.slice (some ⟨g,0,none⟩) n cap) l) {i:Nat} (hi:i < l.length) (x:Int):zH (w.setCell ⟨g,i,none⟩ (int i64 x)) B D (.slice (some ⟨g,0,none⟩) n cap) (l.set i x):=by
 rcases h with ⟨hv,_⟩ | ⟨g',cap',cur,hv,hb,hd,hg,h1,h2,h3,h4⟩
 ·simp at hv
 ·simp only [Value.slice.injEq,Option.some.injEq,Addr.mk.injEq,and_true] at hv;obtain ⟨rfl,rfl,rfl⟩:=hv;refine .inr ⟨g,cap,cur.setIfInBounds i (int i64 x),by simp,hb,hd,zM hg _,by simpa using h1,h2,by simpa using h3,fun j hj=>?_⟩;rw [List.length_set] at hj;by_cases e:i=j
  ·subst e;simp [List.getD,hj,show i < cur.size by omega]
  ·rw [Array.getElem?_setIfInBounds_ne e,h4 j hj];simp [List.getD,e]
theorem zH.out {w w':World} {B D B' D':Nat} {v:Value} {l:List Int} (h:zH w B D v l) (k:Out B' D' w w') (hd:D<=B'\/D'<=B):zH w' B D v l :=
 h.kept (fun j h0 h1 h2=>by rcases hd with hd | hd;exact k.below.block j (by omega);exact k.block j (by omega) h0)
def z0G (n:Nat):Array Value:=madeCells (Value.int .i64 0).cells (n * 1)
theorem z4Q (n:Nat):(z0G n).size=n:=by rw [z0G,size_madeCells];omega
theorem zfI:(Tryz.prog.info? 3).map (fun i=>(i.zero,i.size,i.bytes))=some (some (Value.int .i64 0),1,8):=by kernel_rfl
theorem z4R (n:Nat) (hn:n<=1048576) (u:World):(Instr.makeSlice 42 (int i64 (n:Int)) (int i64 (n:Int))).run Tryz.prog u=.ok (.slice (some ⟨u.heap.size,0,none⟩) n n) (u.alloc (.cells (z0G n) 3)):=by
 obtain ⟨i0,hi,hz0,hz1,hz2⟩:=info_parts zfI;have h:=run_make (P:=Tryz.prog) u 42 3 i0 _ Tryz.underlying42 hi hz0 .i64 .i64 (n:Int) (n:Int) (by omega) (Int.le_refl _) (by rw [hz2];omega) (by omega);rw [hz1,Int.toNat_natCast] at h;exact h
end
section
open Go.RowKit Go.Shelf Go.Lib
shelf_lay Lays.n212 Nm 212 at Tryz as bitsMul
def z76 (L:List Value) (k:Nat):Prop:=∀ i,i < k->L[i]?=some (int i64 1)
theorem z8l {L:List Value} {k c:Nat} (h:z76 L k) (hc:k+c<=L.length):z76 (splice L k (List.replicate c (int i64 1))) (k+c):=by
 intro i hi;unfold splice;by_cases e:i < k
 ·rw [List.getElem?_append_left (by simp;omega),List.getElem?_take_of_lt e];exact h i e
 ·rw [List.getElem?_append_right (by simp;omega),List.getElem?_append_left (by simp;omega)];rw [List.getElem?_replicate,if_pos (by rw [List.length_take];omega)]
theorem uI:(Tryz.prog.info? 3).map (·.size)=some 1:=by kernel_rfl
theorem zbo (b n:Nat) (h1:1<=n) (hn:n<=100) (w:World) (hb:b < w.heap.size) (hx:w.cell? ⟨b,0,none⟩=some (int i64 1)) :
  Calls Tryz.prog 96 #[.slice (some ⟨b,0,none⟩) 1 1,int i64 n] w fun e w'=>∃ a cap,e=.returned (.slice a n cap)/\zH w' w.heap.size w'.heap.size (.slice a n cap) (List.replicate n 1)/\Below w.heap.size w w':=by
 have hmul:=fun W=>Any.bits_Mul bitsMul 1 n (by omega) (by omega) W;change ∀ W,Calls Tryz.prog 99 _ _ _ at hmul;have em1:1 * n / 18446744073709551616=0:=(by omega);have em2:1 * n % 18446744073709551616=n:=(by omega);rw [em1,em2] at hmul;have HM:=Hd hmul;have hmk:=z4R n (by omega);have hn0:¬ (n:Int) < 0:=(by omega);clear hmul em1 em2;go_enter Tryz.func96,Tryz.ntmps96;go_wp2_with fail
 refine (HM.out _).mono ?_;rintro e w1 ⟨rfl,e1⟩
 cases e1
 have hcp:=run_copy_row (P:=Tryz.prog) (w.alloc (.cells (z0G n) 3)) 42 42 3 3 w.heap.size 0 n n ⟨b,0,none⟩ 1 1 (z0G n) 3 [int i64 1] Tryz.underlying42 uI (zk _ _) (by simp [Nat.min_def];omega)
  (fun j v hv=>by
   match j,hv with
   | 0,hv=>simp at hv;subst hv;rw [show (⟨b,0,none⟩:Addr).add 0=⟨b,0,none⟩ from rfl];exact ((ze (Below.refl w.heap.size w) _).cell (p:=⟨b,0,none⟩) hb).trans hx)
  (by rw [z4Q];simp;omega) (fun v hv=>by simp at hv;subst hv;rfl)
 obtain ⟨w2,hw2⟩:∃ w2,w2=(w.alloc (.cells (z0G n) 3)).setRow w.heap.size ((z0G n).toList.take 0 ++ [Value.int .i64 1] ++ (z0G n).toList.drop (0+[Value.int .i64 1].length)).toArray:=⟨_,rfl⟩;rw [<-hw2] at hcp
 have HG:Hid (w2.heap[w.heap.size]?=some (.cells (splice (z0G n).toList 0 [int i64 1]).toArray 3 (0,0))):=by
  rw [hw2];show _=_;rw [setRow_heap _ _ _ _ _ _ (zk _ _)];simp [splice]
 have hB:Below w.heap.size w w2:=(by rw [hw2];exact below_setRow (ze (Below.refl _ _) _) (Nat.le_refl _) _);clear hw2;go_wp2_with fail
 clear hcp;have HB:=Hd hB
 have HO:Hid (z76 (splice (z0G n).toList 0 [int i64 1]) 1):=by
  have:=z8l (L:=(z0G n).toList) (k:=0) (c:=1) (fun i hi=>absurd hi (Nat.not_lt_zero _)) (by rw [Array.length_toList,z4Q];omega);exact this
 have hL0:(z0G n).toList.length=n:=(by rw [Array.length_toList,z4Q]);have hL:(splice (z0G n).toList 0 [int i64 1]).length=n:=(by rw [length_splice _ _ _ (by rw [hL0];exact h1),hL0]);have hz2:w.heap.size < w2.heap.size:=(bL HG.out);generalize splice (z0G n).toList 0 [int i64 1]=L0 at HG HO hL;clear hB hmk;go_loopw [8] (fun s8 W=>∃ (k:Nat) (L:List Value),s8=int i64 k/\1<=k/\k<=n/\L.length=n/\Hid (W.heap[w.heap.size]?=some (.cells L.toArray 3 (0,0)))/\Hid (z76 L k)/\Hid (Below w.heap.size w W)/\w.heap.size < W.heap.size) (fun s8 _=>n - (intOf s8).toNat)
 case atStart=>exact ⟨1,L0,rfl,Nat.le_refl _,h1,hL,HG,HO,HB,hz2⟩
 case round =>
  clear HG HO HB hz2 hL;obtain ⟨k,L,rfl,hk1,hk2,hL,HG,HO,HB,hz⟩:=hrel;have HL:=Hd hL;clear hL;by_cases hlt:k < n
  ·have hltz:(k:Int) < (n:Int):=(by omega);obtain ⟨c,hc⟩:∃ c,c=min k (n - k):=⟨_,rfl⟩;have hc1:1<=c:=(by rw [hc,Nat.min_def];split <;> omega);have hc2:k+c<=n:=(by rw [hc,Nat.min_def];split <;> omega);have HC:=Hd hc;have HN:=Hd (z8l (c:=c) HO.out (by rw [HL.out];exact hc2));have HL2:Hid ((splice L k (List.replicate c (int i64 1))).length=n):=(by show _=_;rw [length_splice _ _ _ (by rw [HL.out];simp;omega)];exact HL.out);obtain ⟨cs,hcs⟩:∃ cs:List Value,cs=List.replicate c (int i64 1):=⟨_,rfl⟩;rw [<-hcs] at HN HL2;have hcl:cs.length=c:=(by rw [hcs];simp);have HCS:=Hd hcs;have HCL:=Hd hcl;clear hc hcs hcl
   have hcp:=run_copy_row (P:=Tryz.prog) wr.drew 42 42 3 3 w.heap.size k (n - k) (n - k) ⟨w.heap.size,0,none⟩ k n L.toArray 3 cs Tryz.underlying42 uI HG.out (by rw [HCL.out,HC.out])
    (fun j v hv=>by
     have hj:j < cs.length:=(List.getElem?_eq_some_iff.1 hv).1;rw [HCL.out] at hj;rw [HCS.out,List.getElem?_replicate,if_pos hj] at hv;rw [Go.WideShapes.add_plain,Nat.zero_add];have e:c<=k:=(by rw [HC.out];exact Nat.min_le_left _ _);show wr.cell? _=_;rw [zf HG.out,List.getElem?_toArray,HO.out j (by omega)];exact hv)
    (by rw [HCL.out];simp;rw [HL.out];exact hc2) (fun v hv=>by rw [HCS.out] at hv;rw [(List.mem_replicate.1 hv).2];rfl)
   rw [HCL.out] at hcp;obtain ⟨w3,hw3⟩:∃ w3,w3=wr.drew.setRow w.heap.size (L.toArray.toList.take k ++ cs ++ L.toArray.toList.drop (k+c)).toArray:=⟨_,rfl⟩;rw [<-hw3] at hcp
   have HG3:Hid (w3.heap[w.heap.size]?=some (.cells (splice L k cs).toArray 3 (0,0))):=by
    rw [hw3];show _=_;rw [setRow_heap wr.drew _ _ _ _ _ HG.out];simp [splice,HCL.out]
   have HB3:Hid (Below w.heap.size w w3):=(by rw [hw3];exact below_setRow (z1P HB.out) (Nat.le_refl _) _);have hz3:w.heap.size < w3.heap.size:=(bL HG3.out);clear hw3;generalize splice L k cs=L3 at HG3 HN HL2;have hk0:(0:Int)<=(k:Int):=(by omega);have enk:((n:Int) - (k:Int)).toNat=n - k:=(by omega);go_wp2_with fail
   go_region
   all_goals
    go_wp2;go_roundw
    case rel=>exact ⟨k+c,L3,by go_num,by omega,hc2,HL2.out,HG3,HN,HB3,hz3⟩
    case measure=>simp [intOf];omega
  ·obtain rfl:k=n:=by omega
   go_wp2;go_ret
   exact ⟨_,_,rfl,.inr ⟨w.heap.size,k,L.toArray,by simp,Nat.le_refl _,hz,HG.out,by simp,by unfold maxLen;omega,by simpa using HL.out,fun i hi=>by
    rw [List.length_replicate] at hi;rw [List.getElem?_toArray,HO.out i hi];simp [List.getD,hi]⟩,HB.out⟩
end
section
open Go.RowKit
def wtB (n:Int):Bool:=decide (0<=n/\n<=100000)
def zt (t:Int) (l:List Int):Bool:=wtB t && decide (l.length<=100) && l.all wtB
theorem z5X (n:Int):inB n 0 100000=wtB n:=rfl
theorem zdi {l:List Int} {k:Nat} (h:k < l.length) (h1:(l.take k).all wtB=true) (h2:wtB (l.getD k 0)=true):(l.take (k+1)).all wtB=true:=by
 rw [List.take_add_one,List.all_append,h1];simp [List.getD,h] at h2 |-;exact h2
theorem zey {l:List Int} {k:Nat} (h:k < l.length) (h2:wtB (l.getD k 0)=false):l.all wtB=false:=by
 rw [List.all_eq_false];refine ⟨l[k],List.getElem_mem h,?_⟩;simp [List.getD,h] at h2;simp [h2]
theorem z2Y {l:List Int} (h:l.all wtB=true) {i:Nat} (hi:i < l.length):0<=l.getD i 0/\l.getD i 0<=100000:=by
 have:=List.all_eq_true.1 h (l[i]) (List.getElem_mem hi);simp [wtB] at this
 simpa [List.getD,hi] using this
def zx (l:List Int) (k:Nat):Int:=(l.take k).sum
theorem z0E {l:List Int} {k:Nat} (h:k < l.length):zx l (k+1)=zx l k+l.getD k 0:=by
 rw [zx,List.take_add_one,List.sum_append,zx];simp [List.getD,h]
theorem z12 (l:List Int):zx l l.length=l.sum:=by rw [zx,List.take_length]
theorem z3M {l:List Int} (h:l.all wtB=true):∀ k,k<=l.length->0<=zx l k/\zx l k<=k * 100000
 | 0,_=>by simp [zx]
 | k+1,hk=>by
  have h1:=z3M h k (by omega);have h2:=z2Y h (i:=k) (by omega);rw [z0E (by omega)];omega
theorem z2B {l:List Int} (h:l.all wtB=true):0<=l.sum/\l.sum<=l.length * 100000:=by
 have:=z3M h l.length (Nat.le_refl _)
 rwa [z12] at this
theorem z09 {t:Int} {l:List Int} (h:zt t l=true):(0<=t/\t<=100000)/\l.length<=100/\l.all wtB=true:=by
 simp only [zt,Bool.and_eq_true,decide_eq_true_eq] at h;obtain ⟨⟨h1,h2⟩,h3⟩:=h;simp only [wtB,decide_eq_true_eq] at h1;exact ⟨h1,h2,h3⟩
theorem z5N (v:Value) (l:List Int) (hl:l.length<=1000) (hw:l.all wtB=true) (w:World) (h:z0g w v l) :
  Calls Tryz.prog 83 #[v] w fun e w'=>e=.returned (int i64 l.sum)/\w'=w:=by
 obtain ⟨a,cap,rfl,_⟩:=h.form;have H:=Hd h;have HW:=Hd (z3M hw);have HG:=Hd (fun i hi=>z2Y (i:=i) hw hi);clear h hw;go_enter Tryz.func83,Tryz.ntmps83;go_wp2_with fail
 go_loop [3,8] (fun s i=>∃ k:Nat,k<=l.length/\i=int i64 k/\s=int i64 (zx l k)) (fun _ i=>l.length - (intOf i).toNat)
 case atStart=>exact ⟨0,Nat.zero_le _,rfl,by simp [zx]⟩
 case round =>
  obtain ⟨k,hk,rfl,rfl⟩:=hrel;by_cases hlt:k < l.length
  ·obtain ⟨b,off,cap',e',hc1,hc2,hbl,hx⟩:=H.out.get hlt;simp only [Value.slice.injEq,true_and] at e';obtain ⟨rfl,rfl⟩:=e';have hb1:=HW.out k hk;have hb2:=HG.out k hlt;have HS:=Hd (z0E hlt);generalize l.getD k 0=x at hx HS hb2;generalize zx l k=s at HS hb1;unfold maxLen at hc2;go_wp2
   go_round
   case rel=>exact ⟨k+1,by omega,by go_num,by rw [HS.out]⟩
   case measure=>simp [intOf];omega
  ·obtain rfl:k=l.length:=by omega
   have HE:=Hd (z12 l);go_wp2;go_ret;exact ⟨by rw [<-HE.out];rfl,rfl⟩
theorem zc7 (t:Int) (v:Value) (l:List Int) (w:World) (h:z0g w v l) :
  Calls Tryz.prog 90 #[int i64 t,v] w fun e w'=>e=.returned (.bool (zt t l))/\w'=w:=by
 obtain ⟨a,cap,rfl,hlen⟩:=h.form;have H:=Hd h;clear h;have HC:=Hd (fun n=>zA n 0 100000);by_cases ht:wtB t=true
 ·by_cases hl:(100:Int) < (l.length:Int)
  ·have HF:Hid (zt t l=false):=(by show _=_;simp [zt];omega);go_enter Tryz.func90,Tryz.ntmps90;go_wp2_with fail
   refine (HC.out _ _).mono ?_;rintro e w1 ⟨rfl,rfl⟩;rw [z5X,ht];go_wp2;go_ret;exact ⟨zU HF.out.symm,rfl⟩
  ·go_enter Tryz.func90,Tryz.ntmps90;go_wp2_with fail
   refine (HC.out _ _).mono ?_;rintro e w1 ⟨rfl,rfl⟩;rw [z5X,ht];go_wp2_with fail
   go_loop [17] (fun i=>∃ k:Nat,k<=l.length/\i=int i64 k/\Hid ((l.take k).all wtB=true)) (fun i=>l.length - (intOf i).toNat)
   case atStart=>exact ⟨0,Nat.zero_le _,rfl,by simp [Hid]⟩
   case round =>
    obtain ⟨k,hk,rfl,HA⟩:=hrel;by_cases hlt:k < l.length
    ·obtain ⟨b,off,cap',e',hc1,hc2,hbl,hx⟩:=H.out.get hlt;simp only [Value.slice.injEq,true_and] at e';obtain ⟨rfl,rfl⟩:=e';unfold maxLen at hc2;by_cases hy:wtB (l.getD k 0)=true
     ·have HN:=Hd (zdi hlt HA.out hy);generalize l.getD k 0=x at hx hy;go_wp2_with fail
      refine (HC.out _ _).mono ?_;rintro e w1 ⟨rfl,rfl⟩;rw [z5X,hy];go_wp2
      go_round
      case rel=>exact ⟨k+1,by omega,by go_num,HN⟩
      case measure=>simp [intOf];omega
     ·have hy':=eq_false_of_ne_true hy;have HF:Hid (zt t l=false):=(by show _=_;simp only [zt,zey hlt hy',Bool.and_false]);generalize l.getD k 0=x at hx hy';go_wp2_with fail
      refine (HC.out _ _).mono ?_;rintro e w1 ⟨rfl,rfl⟩;rw [z5X,hy'];go_wp2;go_ret;exact ⟨zU HF.out.symm,rfl⟩
    ·obtain rfl:k=l.length:=by omega
     have HF:Hid (zt t l=true):=(by have h1:=HA.out;rw [List.take_length] at h1;show _=_;simp only [zt,ht,h1,Bool.and_true,Bool.true_and,decide_eq_true_eq];omega);go_wp2;go_ret;exact ⟨zU HF.out.symm,rfl⟩
 ·have ht':=eq_false_of_ne_true ht;have HF:Hid (zt t l=false):=(by show _=_;simp only [zt,ht',Bool.false_and]);go_enter Tryz.func90,Tryz.ntmps90;go_wp2_with fail
  refine (HC.out _ _).mono ?_;rintro e w1 ⟨rfl,rfl⟩;rw [z5X,ht'];go_wp2;go_ret;exact ⟨zU HF.out.symm,rfl⟩
def z5o (t:Int) (l:List Int) (k:Int):Int:=if zt t l && inB k 0 (l.length - 1) && l.sum != 0 then t * l.getD k.toNat 0 / l.sum else 0
theorem z4s {t:Int} {l:List Int} {k:Int} (h1:zt t l=true) (h2:inB k 0 (l.length - 1)=true) (h3:l.sum ≠ 0):z5o t l k=t * l.getD k.toNat 0 / l.sum:=by
 rw [z5o,if_pos];simp [h1,h2,h3]
theorem z4S {t x:Int} (h1:0<=t/\t<=100000) (h2:0<=x/\x<=100000):0<=t * x/\t * x<=10000000000 :=
 ⟨Int.mul_nonneg h1.1 h2.1,Int.le_trans (Int.mul_le_mul h1.2 h2.2 h2.1 (by omega)) (by omega)⟩
def z0J (t:Int) (l:List Int):Nat->Int
 | 0=>0
 | k+1=>z0J t l k+z5o t l k
theorem z4u {l:List Int} {k:Nat} (h:k < l.length):inB (k:Int) 0 ((l.length:Int) - 1)=true:=z2k (by omega) (by omega)
theorem zdj {a s:Int} (hs:0 < s):s * (a / s)<=a/\a<=s * (a / s)+(s - 1):=by
 have h1:=Int.mul_ediv_add_emod a s;have h2:=Int.emod_nonneg a (show s ≠ 0 by omega);have h3:=Int.emod_lt_of_pos a hs
 constructor <;> omega
theorem z7a {t:Int} {l:List Int} (h:zt t l=true) (hs:0 < l.sum):∀ k,k<=l.length->l.sum * z0J t l k<=t * zx l k/\t * zx l k<=l.sum * z0J t l k+k * (l.sum - 1)
 | 0,_=>by simp [z0J,zx]
 | k+1,hk=>by
  obtain ⟨h1,h2⟩:=z7a h hs k (by omega);have hlt:k < l.length:=(by omega);obtain ⟨h3,h4⟩:=zdj (a:=t * l.getD k 0) hs;rw [z0J,z4s h (z4u hlt) (by omega),z0E hlt,Int.toNat_natCast,Int.mul_add,Int.mul_add];have e:((k+1:Nat):Int) * (l.sum - 1)=(k:Int) * (l.sum - 1)+(l.sum - 1):=(by rw [Int.natCast_add,Int.add_mul];simp);rw [e]
  constructor <;> omega
theorem z4B {t:Int} {l:List Int} (h:zt t l=true) (hs:0 < l.sum):z0J t l l.length<=t/\t - l.length < z0J t l l.length:=by
 obtain ⟨h1,h2⟩:=z7a h hs l.length (Nat.le_refl _);rw [z12] at h1 h2
 have hl:0 < l.length:=by
  rcases Nat.eq_zero_or_pos l.length with h0 | h0
  ·rw [List.eq_nil_of_length_eq_zero h0] at hs;simp at hs
  ·exact h0
 generalize l.sum=s at *;generalize z0J t l l.length=d at *;generalize l.length=n at *;rw [Int.mul_comm t s] at h1 h2;constructor
 ·exact Int.le_of_mul_le_mul_left h1 hs
 ·apply Int.lt_of_mul_lt_mul_left (a:=s) _ (by omega);rw [Int.mul_sub];have e:(n:Int) * (s - 1)=s * n - n:=(by rw [Int.mul_sub,Int.mul_one,Int.mul_comm]);omega
theorem z6x {t:Int} {l:List Int} (k:Int):0<=z5o t l k/\z5o t l k<=10000000000:=by
 by_cases h:(zt t l && inB k 0 (l.length - 1) && l.sum != 0)=true
 ·rw [z5o,if_pos h];simp only [Bool.and_eq_true,bne_iff_ne] at h;obtain ⟨⟨h1,h2⟩,h3⟩:=h;obtain ⟨ht,hl,hw⟩:=z09 h1;have hk:0<=k/\k<=(l.length:Int) - 1:=(by simpa [inB] using h2);have hm:=z4S ht (z2Y hw (i:=k.toNat) (by omega));have hs:=(z2B hw).1;exact ⟨Int.ediv_nonneg hm.1 hs,Int.le_trans (Int.ediv_le_self _ hm.1) hm.2⟩
 ·rw [z5o,if_neg h];omega
theorem z5q {t:Int} {l:List Int}:∀ k:Nat,0<=z0J t l k/\z0J t l k<=k * 10000000000
 | 0=>by simp [z0J]
 | k+1=>by
  have h1:=z5q (t:=t) (l:=l) k;have h2:=z6x (t:=t) (l:=l) k;rw [z0J];omega
theorem z9o (n:Int):wrap64 n=(n+9223372036854775808) % 18446744073709551616 - 9223372036854775808:=by unfold wrap64;rfl
theorem zcc (a b:Int):wrap64 (wrap64 a+b)=wrap64 (a+b):=by simp only [z9o];omega
theorem zfn (a b:Int):wrap64 (a+wrap64 b)=wrap64 (a+b):=by simp only [z9o];omega
theorem z5d {a:Int} (h:-9223372036854775808<=a/\a<=9223372036854775807):wrap64 a=a:=by rw [z9o];omega
theorem zdp (a:Int):-9223372036854775808<=wrap64 a/\wrap64 a<=9223372036854775807:=by rw [z9o];omega
def zcd (l:List Int) (col:Int):Nat:=(min (max col 0) l.length).toNat
def atV (l:List Int) (gap col:Int):Int:=wrap64 (zx l (zcd l col)+gap * (zcd l col:Nat))
def zgz (l:List Int) (gap col:Int):Int:=if inB col 0 (l.length - 1)=true then wrap64 (atV l gap col+l.getD col.toNat 0) else 0
def z2l (l:List Int) (p:Nat->Bool):Nat->List Int
 | 0=>[]
 | k+1=>if p k=true then z2l l p k ++ [l.getD k 0] else z2l l p k
theorem z9p (l:List Int) (p:Nat->Bool):∀ k,(z2l l p k).length<=k
 | 0=>Nat.le_refl _
 | k+1=>by
  have:=z9p l p k;unfold z2l
  split
  ·rw [List.length_append,List.length_singleton];omega
  ·omega
def z1F (xs:List Int) (gap:Int):Int:=if xs.length=0 then 0 else wrap64 (xs.sum+gap * ((xs.length:Int) - 1))
theorem zdq {xs:List Int} (h:xs.length=0) (gap:Int):z1F xs gap=0:=by unfold z1F;rw [if_pos h]
theorem z3W {xs:List Int} (h:xs.length ≠ 0) (gap:Int):z1F xs gap=wrap64 (xs.sum+gap * ((xs.length:Int) - 1)):=by unfold z1F;rw [if_neg h]
theorem z0g.take {w:World} {a:Option Addr} {n cap:Nat} {l:List Int} (h:z0g w (.slice a n cap) l) {m:Nat} (hm:m<=l.length):z0g w (.slice a m cap) (l.take m):=by
 obtain ⟨a',cap',hv,h1,h2,h3⟩:=h;simp only [Value.slice.injEq] at hv;obtain ⟨rfl,rfl,rfl⟩:=hv;have hl:(l.take m).length=m:=(by rw [List.length_take];omega);refine ⟨a,cap,by rw [hl],by omega,h2,fun i hi=>?_⟩;rw [hl] at hi;obtain ⟨b,off,h4,h5,h6⟩:=h3 i (by omega);refine ⟨b,off,h4,h5,?_⟩;rw [h6];simp [List.getD,hi]
def zgD (rs:List R) (k:Nat):Nat:=((rs.take k).map (fun x=>x.cells.length)).sum
def sd (ps:List (Int × Int)) (q:Int):Int × Int:=if inB q 0 (ps.length - 1)=true then ps.getD q.toNat (0,0) else (0,0)
theorem z9g {ps:List (Int × Int)} {q:Int} (h:inB q 0 (ps.length - 1)=false):sd ps q=(0,0):=by unfold sd;rw [if_neg (by rw [h];simp)]
theorem z7t {ps:List (Int × Int)} {k:Nat} (h:k < ps.length):sd ps k=ps.getD k (0,0):=by unfold sd;rw [if_pos (z2k (by omega) (by omega)),Int.toNat_natCast]
def sdT (t:T) (q:Int):Int × Int:=if zq t=true then sd t.cols q else (0,0)
def zgo (arr:Array Value) (o:Nat) (x:C):Prop :=
 arr[o]?=some (.string x.s)/\arr[o+1]?=some (int i64 x.c)/\arr[o+2]?=some (int i64 x.r)/\arr[o+3]?=some (int i64 x.a1)/\arr[o+4]?=some (int i64 x.b1)/\arr[o+5]?=some (int i64 x.a2) /\
 arr[o+6]?=some (int i64 x.b2)/\arr[o+7]?=some (int i64 x.a3)/\arr[o+8]?=some (int i64 x.b3)/\arr[o+9]?=some (int i64 x.a4)/\arr[o+10]?=some (int i64 x.b4)
def zgw (arr:Array Value) (o:Nat) (x:C):Array Value :=
 ((((((((((arr.setIfInBounds o (.string x.s)).setIfInBounds (o+1) (int i64 x.c)).setIfInBounds (o+2) (int i64 x.r)).setIfInBounds (o+3) (int i64 x.a1)).setIfInBounds (o+4) (int i64 x.b1)).setIfInBounds (o+5) (int i64 x.a2)).setIfInBounds (o+6) (int i64 x.b2)).setIfInBounds (o+7) (int i64 x.a3)).setIfInBounds (o+8) (int i64 x.b3)).setIfInBounds (o+9) (int i64 x.a4)).setIfInBounds (o+10) (int i64 x.b4)
def zgF (n:Nat):Array Value:=madeCells (Value.agg #[.string ⟨#[]⟩,int i64 0,int i64 0,int i64 0,int i64 0,int i64 0,int i64 0,int i64 0,int i64 0,int i64 0,int i64 0]).cells (n * 11)
def zgG (n:Nat):Array Value:=madeCells (Value.agg #[.slice none 0 0,.bool false]).cells (n * 2)
def z9O (w:World) (z:Nat) (arr:Array Value) (rs:List R) (k:Nat):Prop :=
 ∀ i,i < k->∃ u,arr[i * 2]?=some u/\arr[i * 2+1]?=some (.bool (rs.getD i dR).whole)/\z0T w z u (rs.getD i dR).cells
theorem z9O.next {w w':World} {z:Nat} {arr:Array Value} {rs:List R} {k:Nat} (h:z9O w z arr rs k) (hs:arr.size=rs.length * 2) (hk:k < rs.length) (hw:zi z w w') {u:Value} (hu:z0T w' z u (rs.getD k dR).cells) :
  z9O w' z ((arr.setIfInBounds (k * 2) u).setIfInBounds (k * 2+1) (.bool (rs.getD k dR).whole)) rs (k+1):=by
 obtain ⟨h1,h2,h3⟩:=z5n hs hk u (.bool (rs.getD k dR).whole);intro i hi
 rcases Nat.lt_or_eq_of_le (Nat.lt_succ_iff.1 hi) with hlt | rfl
 ·obtain ⟨v,e1,e2,e3⟩:=h i hlt;exact ⟨v,(h1 _ (by omega)).trans e1,(h1 _ (by omega)).trans e2,e3.since hw⟩
 ·exact ⟨u,h2,h3,hu⟩
def zgH (n:Nat):Array Value:=madeCells (Value.agg #[int i64 0,int i64 0]).cells (n * 2)
def z9P (arr:Array Value) (ps:List (Int × Int)) (k:Nat):Prop:=∀ i,i < k->arr[i * 2]?=some (int i64 (ps.getD i (0,0)).1)/\arr[i * 2+1]?=some (int i64 (ps.getD i (0,0)).2)
theorem z9P.next {arr:Array Value} {ps:List (Int × Int)} {k:Nat} (h:z9P arr ps k) (hs:arr.size=ps.length * 2) (hk:k < ps.length) :
  z9P ((arr.setIfInBounds (k * 2) (int i64 (ps.getD k (0,0)).1)).setIfInBounds (k * 2+1) (int i64 (ps.getD k (0,0)).2)) ps (k+1):=by
 obtain ⟨h1,h2,h3⟩:=z5n hs hk (int i64 (ps.getD k (0,0)).1) (int i64 (ps.getD k (0,0)).2);intro i hi
 rcases Nat.lt_or_eq_of_le (Nat.lt_succ_iff.1 hi) with hlt | rfl
 ·exact ⟨(h1 _ (by omega)).trans (h i hlt).1,(h1 _ (by omega)).trans (h i hlt).2⟩
 ·exact ⟨h2,h3⟩
theorem z1g {w w':World} {base:Nat} {e:TypeId} {sz:Nat} {v:Value} {m:Nat} {xs:List Value} (h:w.ownsRow base e sz v m xs) (k:zi base w w'):w'.ownsRow base e sz v m xs :=
 ⟨h.1,h.2.elim Or.inl (fun ⟨g,cap,cur,hv,hg,hc,q⟩=>Or.inr ⟨g,cap,cur,hv,hg,(k.block g hg (bL hc)).trans hc,q⟩)⟩
theorem zD.since {w w':World} {base:Nat} {v:Value} {ur:List (Value × R)} (h:zD w base v ur) (k:zi base w w'):zD w' base v ur:=⟨z1g h.own k,fun p hp=>z1g (h.cells p hp) k,h.apart⟩
def z0M (w:World) (base:Nat) (vc vr:Value) (t:T):Prop:=∃ ur:List (Value × R),ur.map (·.2)=t.rows/\zO w base vc t.cols/\zD w base vr ur
theorem z0M.since {w w':World} {base:Nat} {vc vr:Value} {t:T} (h:z0M w base vc vr t) (k:zi base w w'):z0M w' base vc vr t:=by
 obtain ⟨ur,e,a,b⟩:=h;exact ⟨ur,e,z1g a k,b.since k⟩
theorem z0M.base {w:World} {base base':Nat} {vc vr:Value} {t:T} (h:z0M w base vc vr t) (hb:base'<=base):z0M w base' vc vr t:=by
 obtain ⟨ur,e,a,b⟩:=h;exact ⟨ur,e,z0W a hb,b.base hb⟩
theorem z9Q {α:Type} (f:α->List Value) (sz:Nat) (hf:∀ x,(f x).length=sz) (l:List α) (arr:Array Value) (hs:arr.size=l.length * sz) (h:∀ i,(hi:i < l.length)->∀ j,j < sz->arr[i * sz+j]?=(f l[i])[j]?):arr.toList.take (l.length * sz)=l.flatMap f:=by
 rw [List.take_of_length_le (by rw [Array.length_toList,hs];exact Nat.le_refl _)];apply List.ext_getElem?;intro k;by_cases hk:k < l.length * sz
 ·have hz:0 < sz:=by
   rcases Nat.eq_zero_or_pos sz with h0 | h0
   ·rw [h0] at hk;omega
   ·exact h0
  have h1:k / sz < l.length:=(Nat.div_lt_iff_lt_mul hz).2 hk;have h2:k % sz < sz:=Nat.mod_lt _ hz;have e:k=k / sz * sz+k % sz:=(by rw [Nat.mul_comm];exact (Nat.div_add_mod k sz).symm);have a:=h (k / sz) h1 (k % sz) h2;have b:=z0P f sz hf l (k / sz) h1 (k % sz) h2;rw [<-e] at a b;rw [Array.getElem?_toList,a,b]
 ·rw [List.getElem?_eq_none (by rw [Array.length_toList,hs];omega),List.getElem?_eq_none (by rw [z11 f sz hf];omega)]
def z3o (w:World) (z:Nat) (arr:Array Value) (rs:List R) (k:Nat):Prop :=
 ∃ us:List Value,us.length=k/\(∀ i,(hi:i < us.length)->arr[i * 2]?=some us[i]/\arr[i * 2+1]?=some (.bool (rs.getD i dR).whole)/\z0a w z us[i] (rs.getD i dR).cells)/\us.Pairwise fun p q=>p.ownBlock=none\/p.ownBlock ≠ q.ownBlock
theorem z3o.zero (w:World) (z:Nat) (arr:Array Value) (rs:List R):z3o w z arr rs 0:=⟨[],rfl,fun _ hi=>absurd hi (Nat.not_lt_zero _),.nil⟩
theorem z3o.next {w w':World} {z:Nat} {arr:Array Value} {rs:List R} {k:Nat} (h:z3o w z arr rs k) (hs:arr.size=rs.length * 2) (hk:k < rs.length) (hz:z<=w.heap.size) (hw:zi z w w') {u:Value} (hu:z0a w' w.heap.size u (rs.getD k dR).cells) :
  z3o w' z ((arr.setIfInBounds (k * 2) u).setIfInBounds (k * 2+1) (.bool (rs.getD k dR).whole)) rs (k+1):=by
 obtain ⟨h1,h2,h3⟩:=z5n hs hk u (.bool (rs.getD k dR).whole);obtain ⟨us,hl,hg,hp⟩:=h;refine ⟨us ++ [u],by simp [hl],fun i hi=>?_,?_⟩
 ·rw [List.length_append,List.length_singleton,hl] at hi
  rcases Nat.lt_or_eq_of_le (Nat.lt_succ_iff.1 hi) with hlt | rfl
  ·obtain ⟨e1,e2,e3⟩:=hg i (by omega);rw [List.getElem_append_left (by omega)];exact ⟨(h1 _ (by omega)).trans e1,(h1 _ (by omega)).trans e2,z1g e3 hw⟩
  ·have e:(us ++ [u])[i]'(by simp [hl])=u:=by
    rw [List.getElem_append_right (by omega)];simp
   rw [e];exact ⟨h2,h3,z0W hu hz⟩
 ·rw [List.pairwise_append];refine ⟨hp,List.pairwise_singleton _ _,fun p hpm q hq=>?_⟩;rw [List.mem_singleton] at hq;subst hq;obtain ⟨i,hi,rfl⟩:=List.mem_iff_getElem.1 hpm;obtain ⟨_,_,e3⟩:=hg i hi
  cases hb:us[i].ownBlock with
  | none=>exact .inl rfl
  | some b =>
   refine .inr (fun he=>?_);have l1:=z0k e3 hb;have l2:=z0k hu he.symm;omega
theorem z3o.all {w:World} {z:Nat} {arr:Array Value} {rs:List R} (h:z3o w (z+1) arr rs rs.length) (hs:arr.size=rs.length * 2) (hg:w.heap[z]?=some (.cells arr 32)) (hm:rs.length<=maxLen) :
  ∃ ur:List (Value × R),ur.map (·.2)=rs/\zD w z (.slice (some ⟨z,0,none⟩) rs.length rs.length) ur:=by
 obtain ⟨us,hl,hgt,hp⟩:=h;have hzl:(us.zip rs).length=rs.length:=(by rw [List.length_zip,hl,Nat.min_self]);refine ⟨us.zip rs,List.map_snd_zip (by omega),⟨?_,fun p hpm=>?_,?_⟩⟩
 ·refine ⟨z11 zG 2 (fun _=>rfl) _,.inr ⟨z,rs.length,arr,by rw [hzl],Nat.le_refl _,hg,by rw [hzl];exact Nat.le_refl _,hm,hs,?_⟩⟩;refine z9Q zG 2 (fun _=>rfl) (us.zip rs) arr (by rw [hs,hzl]) (fun i hi j hj=>?_);rw [hzl] at hi;obtain ⟨e1,e2,_⟩:=hgt i (by omega);rw [zI dR hi] at e2;rw [List.getElem_zip]
  match j,hj with
  | 0,_=>exact e1
  | 1,_=>exact e2
 ·obtain ⟨i,hi,rfl⟩:=List.mem_iff_getElem.1 hpm;rw [hzl] at hi;obtain ⟨_,_,e3⟩:=hgt i (by omega);rw [zI dR hi] at e3;rw [List.getElem_zip];exact z0W e3 (Nat.le_succ _)
 ·rw [List.pairwise_iff_getElem] at hp |-;intro i j hi hj hij;rw [List.getElem_zip,List.getElem_zip];exact hp i j (by omega) (by omega) hij
def zfu (n:Nat) (out:ByteArray):ByteArray:=if n=0 then out else zfu (n / 10) (⟨#[48+UInt8.ofNat (n % 10)]⟩ ++ out)
termination_by n
decreasing_by omega
def mt (k:Nat):ByteArray:=⟨#[109]⟩ ++ zfu k ⟨#[]⟩
def mkC (k:Nat):C:=⟨mt k,(k:Int)+1,(k:Int)+2,(k:Int)+3,(k:Int)+4,(k:Int)+5,(k:Int)+6,(k:Int)+7,(k:Int)+8,(k:Int)+9,(k:Int)+10⟩
def zgd (n k:Nat):List C:=(List.range n).map fun i=>mkC (k+11 * i)
theorem z4X {α:Type} (f:α->List Value) (sz:Nat) (hf:∀ x,(f x).length=sz) (l:List α) (arr:Array Value) (hs:l.length * sz<=arr.size) (h:∀ i,(hi:i < l.length)->∀ j,j < sz->arr[i * sz+j]?=(f l[i])[j]?):arr.toList.take (l.length * sz)=l.flatMap f:=by
 have e:=z9Q f sz hf l (arr.extract 0 (l.length * sz)) (by rw [Array.size_extract];omega) (fun i hi j hj=>by
  have hlt:i * sz+j < l.length * sz:=by
   have:(i+1) * sz<=l.length * sz:=Nat.mul_le_mul_right sz hi;rw [Nat.succ_mul] at this;omega
  rw [Array.getElem?_extract,if_pos (by omega),Nat.zero_add];exact h i hi j hj)
 rw [<-e];simp [List.take_take]
theorem zbF (w:World) (r:Option Nat):w.grownBy w r:=⟨rfl,rfl,rfl,Nat.le_refl _,fun _ _ _=>rfl⟩
theorem zcJ {a w:World} {g:Nat} (h:a.grownBy w (some g)) {p:Addr} (hp:p.block=g) (v:Value):a.grownBy (w.setCell p v) (some g) :=
 ⟨h.os,h.tape,h.output,by rw [z2c];exact h.size,fun k hk hr=>(Below.heap_setCell _ _ _ _ (fun e=>hr (by rw [e,hp]))).trans (h.block k hk hr)⟩
theorem Out.trans {B D:Nat} {a b c:World} (h:Out B D a b) (k:Out B D b c):Out B D a c :=
 ⟨h.below.trans k.below,fun i h1 h2=>(k.block i h1 (Nat.lt_of_lt_of_le h2 h.below.size)).trans (h.block i h1 h2)⟩
theorem Out.alloc {B D:Nat} {a w:World} (h:Out B D a w) (hB:B<=w.heap.size) (o:Obj):Out B D a (w.alloc o) :=
 ⟨h.below.alloc hB o,fun k h1 h2=>(Below.heap_alloc _ _ _ (Nat.lt_of_lt_of_le h2 h.below.size)).trans (h.block k h1 h2)⟩
def zfU (k:Nat):Int × Int:=((k:Int),(k:Int)+1)
def zgs (n k:Nat):List (Int × Int):=(List.range n).map fun i=>zfU (k+2 * i)
def z86 (arr:Array Value) (f:Nat->Int × Int) (k:Nat):Prop:=∀ i,i < k->arr[i * 2]?=some (int i64 (f i).1)/\arr[i * 2+1]?=some (int i64 (f i).2)
theorem z86.next {arr:Array Value} {f:Nat->Int × Int} {k n:Nat} (h:z86 arr f k) (hs:arr.size=n * 2) (hk:k < n) :
  z86 ((arr.setIfInBounds (k * 2) (int i64 (f k).1)).setIfInBounds (k * 2+1) (int i64 (f k).2)) f (k+1):=by
 obtain ⟨h1,h2,h3⟩:=z5n hs hk (int i64 (f k).1) (int i64 (f k).2);intro i hi
 rcases Nat.lt_or_eq_of_le (Nat.lt_succ_iff.1 hi) with hlt | rfl
 ·exact ⟨(h1 _ (by omega)).trans (h i hlt).1,(h1 _ (by omega)).trans (h i hlt).2⟩
 ·exact ⟨h2,h3⟩
def kAt (rs:List R) (k:Nat):Nat->Nat
 | 0=>k
 | i+1=>kAt rs k i+11 * (rs.getD i dR).cells.length+1
def mkR (k:Nat) (r:R):R:=⟨zgd r.cells.length k,decide ((k+11 * r.cells.length) % 3=0)⟩
def dU:Value × R:=(.slice none 0 0,dR)
def mkU (ur:List (Value × R)) (k:Nat):Nat->List (Value × R)
 | 0=>ur
 | i+1=>(mkU ur k i).set i ((ur.getD i dU).1,mkR (kAt (ur.map (·.2)) k i) (ur.getD i dU).2)
theorem zD.mark {w w1:World} {base:Nat} {v:Value} {ur:List (Value × R)} (h:zD w base v ur) {i g cap:Nat} (hv:v=.slice (some ⟨g,0,none⟩) ur.length cap) {p:Value × R} (hi:ur[i]?=some p) {r:R} (hc:z0a w1 base p.1 r.cells) (k:w.grownBy w1 p.1.ownBlock) :
  zD (w1.setCell ⟨g,i * 2+1,none⟩ (.bool r.whole)) base v (ur.set i (p.1,r)):=by
 have hil:i < ur.length:=(List.getElem?_eq_some_iff.1 hi).1;have hpm:p ∈ ur:=List.mem_of_getElem? hi;have hne:v.ownBlock=none\/v.ownBlock ≠ p.1.ownBlock:=z1k h.own (h.cells p hpm) (by decide);have hvg:v.ownBlock=some g:=(by rw [hv];rfl);have K1:Off 0 none p.1.ownBlock w w1:=Off.grown k;have h1:=z05 h.own K1 (Nat.zero_le _) (.inr (by rw [hvg];simp)) hne;have hS:Off 0 (some g) none w1 (w1.setCell ⟨g,i * 2+1,none⟩ (.bool r.whole)):=Off.set w1 ⟨g,i * 2+1,none⟩ rfl _
 have hcw:z0a (w1.setCell ⟨g,i * 2+1,none⟩ (.bool r.whole)) base p.1 r.cells:=by
  refine z05 hc hS (Nat.zero_le _) ?_ ?_
  ·rcases z1k hc h1 (by decide) with e | e
   ·exact .inl e
   ·exact .inr (by rw [<-hvg];exact e)
  ·rcases hb:p.1.ownBlock with _ | b
   ·exact .inl rfl
   ·exact .inr (by simp)
 refine ⟨?_,fun q hq=>?_,?_⟩
 ·rcases h1.2 with ⟨e,_⟩ | ⟨g',cap',cur,e,hg',hcur,a1,a2,a3,a4⟩
  ·rw [hv] at e;simp at e
  ·rw [hv] at e;simp only [Value.slice.injEq,Option.some.injEq,Addr.mk.injEq,and_true,true_and] at e;obtain ⟨rfl,rfl⟩:=e;refine ⟨by rw [z11 zG 2 (fun _=>rfl)],.inr ⟨g,cap,cur.setIfInBounds (i * 2+1) (.bool r.whole),by rw [List.length_set];exact hv,hg',zM hcur _,by rw [List.length_set];exact a1,a2,by rw [Array.size_setIfInBounds];exact a3,?_⟩⟩;refine z4X zG 2 (fun _=>rfl) (ur.set i (p.1,r)) (cur.setIfInBounds (i * 2+1) (.bool r.whole)) (by rw [List.length_set,Array.size_setIfInBounds,a3];omega) (fun j hj0 m hm=>?_);have hj:j < ur.length:=(by rw [List.length_set] at hj0;exact hj0)
   have hold:cur[j * 2+m]?=(zG ur[j])[m]?:=by
    have e:=z0P zG 2 (fun _=>rfl) ur j hj m hm;rw [<-a4,List.getElem?_take_of_lt (by omega),Array.getElem?_toList] at e;exact e
   by_cases hji:j=i
   ·subst hji;have ep:ur[j]=p:=(by rw [List.getElem?_eq_getElem hj] at hi;exact Option.some.inj hi);rw [List.getElem_set_self]
    match m,hm with
    | 0,_ =>
     rw [Array.getElem?_setIfInBounds_ne (by omega),hold,ep];rfl
    | 1,_ =>
     rw [Array.getElem?_setIfInBounds_self_of_lt (by rw [a3];omega)];rfl
   ·rw [List.getElem_set_ne (by omega),Array.getElem?_setIfInBounds_ne (by omega)];exact hold
 ·obtain ⟨j,hj0,rfl⟩:=List.mem_iff_getElem.1 hq;have hj:j < ur.length:=(by rw [List.length_set] at hj0;exact hj0);by_cases hji:j=i
  ·subst hji;rw [List.getElem_set_self];exact hcw
  ·rw [List.getElem_set_ne (by omega)]
   have hap:ur[j].1.ownBlock=none\/ur[j].1.ownBlock ≠ p.1.ownBlock:=by
    have ep:ur[i]=p:=(by rw [List.getElem?_eq_getElem hil] at hi;exact Option.some.inj hi);have hp:=List.pairwise_iff_getElem.1 h.apart
    rcases Nat.lt_or_gt_of_ne hji with hl | hl
    ·rw [<-ep];exact hp j i hj hil hl
    ·have:=hp i j hil hj hl;rw [ep] at this
     rcases hb:ur[j].1.ownBlock with _ | b
     ·exact .inl rfl
     ·refine .inr (fun e=>?_)
      rcases this with e1 | e1
      ·rw [e1] at e;cases e
      ·exact e1 (e.symm.trans hb.symm)
   have c1:=z05 (h.cells _ (List.getElem_mem hj)) K1 (Nat.zero_le _) (by rcases hb:ur[j].1.ownBlock with _ | b;exact .inl rfl;exact .inr (by simp)) hap;refine z05 c1 hS (Nat.zero_le _) ?_ (by rcases hb:ur[j].1.ownBlock with _ | b;exact .inl rfl;exact .inr (by simp))
   rcases z1k c1 h1 (by decide) with e | e
   ·exact .inl e
   ·exact .inr (by rw [<-hvg];exact e)
 ·rw [List.pairwise_iff_getElem];have hp:=List.pairwise_iff_getElem.1 h.apart
  have hfst:∀ j,(hj:j < ur.length)->((ur.set i (p.1,r))[j]'(by rw [List.length_set];exact hj)).1=ur[j].1:=fun j hj=>by
   by_cases hji:j=i
   ·subst hji;rw [List.getElem_set_self,show ur[j]=p by rw [List.getElem?_eq_getElem hj] at hi;exact Option.some.inj hi]
   ·rw [List.getElem_set_ne (by omega)]
  intro a b ha0 hb0 hab;have ha:a < ur.length:=(by rw [List.length_set] at ha0;exact ha0);have hb:b < ur.length:=(by rw [List.length_set] at hb0;exact hb0);rw [hfst a ha,hfst b hb];exact hp a b ha hb hab
theorem z6I {ur:List (Value × R)} {i:Nat} {p:Value × R} (h:ur[i]?=some p):(ur.map (·.2)).getD i dR=p.2:=by simp [List.getD,h]
theorem zbc {w:World} {base:Nat} {v:Value} {ur:List (Value × R)} (h:zD w base v ur) {i:Nat} {p:Value × R} (hi:ur[i]?=some p):∃ g cap cur,v=.slice (some ⟨g,0,none⟩) ur.length cap/\ur.length<=cap/\cap<=maxLen/\g < w.heap.size/\base<=g/\w.heap[g]?=some (.cells cur 32)/\cur.size=cap * 2/\cur[i * 2]?=some p.1/\cur[i * 2+1]?=some (.bool p.2.whole):=by
 have hil:i < ur.length:=(List.getElem?_eq_some_iff.1 hi).1;have ep:ur[i]=p:=(by rw [List.getElem?_eq_getElem hil] at hi;exact Option.some.inj hi)
 rcases h.own.2 with ⟨_,e⟩ | ⟨g,cap,cur,e,hg,hc,a1,a2,a3,a4⟩
 ·omega
 ·have hold:∀ m,m < 2->cur[i * 2+m]?=(zG p)[m]?:=fun m hm=>by
   have e:=z0P zG 2 (fun _=>rfl) ur i hil m hm;rw [<-a4,List.getElem?_take_of_lt (by omega),Array.getElem?_toList,ep] at e;exact e
  exact ⟨g,cap,cur,e,a1,a2,(bL hc),hg,hc,a3,hold 0 (by omega),hold 1 (by omega)⟩
def Kty (w w':World):Prop:=∀ (j:Nat) (cur:Array Value) (ty:TypeId),ty ≠ 32->ty ≠ 36->w.heap[j]?=some (.cells cur ty)->w'.heap[j]?=some (.cells cur ty)
theorem Kty.refl (w:World):Kty w w:=fun _ _ _ _ _ h=>h
theorem Kty.trans {a b c:World} (h:Kty a b) (k:Kty b c):Kty a c:=fun j cur ty h1 h2 h3=>k j cur ty h1 h2 (h j cur ty h1 h2 h3)
theorem Kty.cells {w w':World} {B m:Nat} {u:Value} {xs:List Value} (h:w.ownsRow B 36 11 u m xs) (k:w.grownBy w' u.ownBlock):Kty w w':=fun j cur ty _ h2 h3=>by
 refine (k.block j (bL h3) (fun e=>?_)).trans h3
 rcases zl h h3 (fun e=>h2 e.symm) with h4 | h4
 ·rw [h4] at e;cases e
 ·exact h4 e.symm
theorem Kty.set {w:World} {g o:Nat} {arr:Array Value} (h:w.heap[g]?=some (.cells arr 32)) (v:Value):Kty w (w.setCell ⟨g,o,none⟩ v):=fun j cur ty h1 _ h3=>by
 refine (Below.heap_setCell _ _ _ _ (fun e=>?_)).trans h3;subst e;rw [h3] at h;simp at h;exact h1 h.2
def z1z (w:World) (B D:Nat) (vc vr:Value) (cols:List (Int × Int)) (ur:List (Value × R)):Prop:=zO w B vc cols/\zD w B vr ur/\(∀ b,vc.ownBlock=some b->b < D)/\(∀ b,vr.ownBlock=some b->b < D)/\∀ p ∈ ur,∀ b,p.1.ownBlock=some b->b < D
theorem z1z.of {w:World} {B:Nat} {vc vr:Value} {cols:List (Int × Int)} {ur:List (Value × R)} (h1:zO w B vc cols) (h2:zD w B vr ur):z1z w B w.heap.size vc vr cols ur :=
 ⟨h1,h2,fun _ e=>(z0k h1 e).2,fun _ e=>(z0k h2.own e).2,fun p hp _ e=>(z0k (h2.cells p hp) e).2⟩
theorem z1z.out {w w':World} {B D B' D':Nat} {vc vr:Value} {cols:List (Int × Int)} {ur:List (Value × R)} (h:z1z w B D vc vr cols ur) (k:Out B' D' w w') (hd:D<=B'\/D'<=B):z1z w' B D vc vr cols ur:=by
 obtain ⟨h1,h2,h3,h4,h5⟩:=h
 have key:∀ {e:TypeId} {sz:Nat} {v:Value} {m:Nat} {xs:List Value},w.ownsRow B e sz v m xs->(∀ b,v.ownBlock=some b->b < D)->w'.ownsRow B e sz v m xs:=fun h hv=>by
  refine ⟨h.1,h.2.elim Or.inl (fun ⟨g,cap,cur,e,hg,hc,q⟩=>Or.inr ⟨g,cap,cur,e,hg,?_,q⟩)⟩;have hgD:g < D:=hv g (by rw [e];rfl);refine Eq.trans ?_ hc
  rcases hd with hd | hd
  ·exact k.below.block g (by omega)
  ·exact k.block g (by omega) (bL hc)
 exact ⟨key h1 h3,⟨key h2.own h4,fun p hp=>key (h2.cells p hp) (h5 p hp),h2.apart⟩,h3,h4,h5⟩
theorem z1z.kept {w w':World} {B D:Nat} {vc vr:Value} {cols:List (Int × Int)} {ur:List (Value × R)} (h:z1z w B D vc vr cols ur) (k:Below w.heap.size w w'):z1z w' B D vc vr cols ur:=by
 have key:∀ {e:TypeId} {sz:Nat} {v:Value} {m:Nat} {xs:List Value},w.ownsRow B e sz v m xs->w'.ownsRow B e sz v m xs:=fun h =>
  ⟨h.1,h.2.elim Or.inl (fun ⟨g,cap,cur,e,hg,hc,q⟩=>Or.inr ⟨g,cap,cur,e,hg,(k.block g (bL hc)).trans hc,q⟩)⟩
 exact ⟨key h.1,⟨key h.2.1.own,fun p hp=>key (h.2.1.cells p hp),h.2.1.apart⟩,h.2.2⟩
def zgI (cols:List (Int × Int)) (ur:List (Value × R)):Nat:=kAt (ur.map (·.2)) (1+2 * cols.length) ur.length
def zT:T:=⟨[],0,0,[],0⟩
def z1c (t:T) (row:Int):Int:=if inB row 0 ((t.rows.length:Int) - 1)=true then ((t.rows.getD row.toNat dR).cells.length:Int) else -1
def z32 (t:T) (row at':Int):Bool:=inB at' 0 (z1c t row - 1)
theorem z6Y {t:T} {row at':Int}:z32 t row at'=true ↔ ∃ r a:Nat,row=r/\at'=a/\r < t.rows.length/\a < (t.rows.getD r dR).cells.length:=by
 unfold z32 z1c;constructor
 ·intro h;simp only [inB,decide_eq_true_eq] at h
  split at h
  ·rename_i h1
   refine ⟨row.toNat,at'.toNat,by omega,by omega,by omega,by omega⟩
  ·omega
 ·rintro ⟨r,a,rfl,rfl,h1,h2⟩;rw [if_pos (z2k (by omega) (by omega)),Int.toNat_natCast];exact z2k (by omega) (by omega)
def z1A (t:T) (r:Nat) (cs:List C):T:=⟨t.cols,t.head,t.foot,t.rows.set r ⟨cs,(t.rows.getD r dR).whole⟩,t.gap⟩
theorem z0a.put {w:World} {B:Nat} {g cap:Nat} {cs:List C} (h:z0a w B (.slice (some ⟨g,0,none⟩) cs.length cap) cs) {a j:Nat} (ha:a < cs.length) (hj:j < 11) {x:C} {v:Value} (hx:z01 x=(z01 cs[a]).set j v) :
  z0a (w.setCell ⟨g,a * 11+j,none⟩ v) B (.slice (some ⟨g,0,none⟩) cs.length cap) (cs.set a x):=by
 rcases h.2 with ⟨e,_⟩ | ⟨g',cap',cur,e,hg,hc,a1,a2,a3,a4⟩
 ·simp at e
 ·simp only [Value.slice.injEq,Option.some.injEq,Addr.mk.injEq,and_true,true_and] at e;obtain ⟨rfl,rfl⟩:=e;refine ⟨z11 z01 11 (fun _=>rfl) _,.inr ⟨g,cap,cur.setIfInBounds (a * 11+j) v,by rw [List.length_set],hg,zM hc _,by rw [List.length_set];exact a1,a2,by rw [Array.size_setIfInBounds];exact a3,?_⟩⟩;refine z4X z01 11 (fun _=>rfl) (cs.set a x) (cur.setIfInBounds (a * 11+j) v) (by rw [List.length_set,Array.size_setIfInBounds,a3];omega) (fun i hi0 m hm=>?_);have hi:i < cs.length:=(by rw [List.length_set] at hi0;exact hi0)
  have hold:cur[i * 11+m]?=(z01 cs[i])[m]?:=by
   have e:=z0P z01 11 (fun _=>rfl) cs i hi m hm;rw [<-a4,List.getElem?_take_of_lt (by omega),Array.getElem?_toList] at e;exact e
  by_cases hia:i=a
  ·subst hia;rw [List.getElem_set_self,hx];by_cases hmj:m=j
   ·subst hmj;rw [Array.getElem?_setIfInBounds_self_of_lt (by rw [a3];omega),List.getElem?_set_self (by show m < 11;exact hm)]
   ·rw [Array.getElem?_setIfInBounds_ne (by omega),List.getElem?_set_ne (by omega)];exact hold
  ·rw [List.getElem_set_ne (by omega),Array.getElem?_setIfInBounds_ne (by omega)];exact hold
theorem zD.upd {w w1:World} {base:Nat} {v:Value} {ur:List (Value × R)} (h:zD w base v ur) {i:Nat} {p:Value × R} (hi:ur[i]?=some p) {r:R} (hw:r.whole=p.2.whole) (hc:z0a w1 base p.1 r.cells) (k:w.grownBy w1 p.1.ownBlock):zD w1 base v (ur.set i (p.1,r)):=by
 have hil:i < ur.length:=(List.getElem?_eq_some_iff.1 hi).1;have ep:ur[i]=p:=(by rw [List.getElem?_eq_getElem hil] at hi;exact Option.some.inj hi);have hpm:p ∈ ur:=List.mem_of_getElem? hi;have K1:Off 0 none p.1.ownBlock w w1:=Off.grown k;have hnn:∀ u:Value,u.ownBlock=none\/u.ownBlock ≠ none:=fun u=>by rcases hb:u.ownBlock with _ | b;exact .inl rfl;exact .inr (by simp)
 have hne:v.ownBlock=none\/v.ownBlock ≠ p.1.ownBlock:=z1k h.own (h.cells p hpm) (by decide);have h1:=z05 h.own K1 (Nat.zero_le _) (hnn v) hne
 have hfst:∀ j,(hj:j < ur.length)->((ur.set i (p.1,r))[j]'(by rw [List.length_set];exact hj)).1=ur[j].1:=fun j hj=>by
  by_cases hji:j=i
  ·subst hji;rw [List.getElem_set_self,ep]
  ·rw [List.getElem_set_ne (by omega)]
 have hfl:(ur.set i (p.1,r)).flatMap zG=ur.flatMap zG:=by
  apply List.ext_getElem?;intro q;have l1:=z11 zG 2 (fun _=>rfl) (ur.set i (p.1,r));have l2:=z11 zG 2 (fun _=>rfl) ur;rw [List.length_set] at l1;by_cases hq:q < ur.length * 2
  ·have e:q=q / 2 * 2+q % 2:=(by omega);have b1:=z0P zG 2 (fun _=>rfl) (ur.set i (p.1,r)) (q / 2) (by rw [List.length_set];omega) (q % 2) (by omega);have b2:=z0P zG 2 (fun _=>rfl) ur (q / 2) (by omega) (q % 2) (by omega);rw [<-e] at b1 b2;rw [b1,b2];by_cases hji:q / 2=i
   ·subst hji;rw [List.getElem_set_self,ep,zG,zG,hw]
   ·rw [List.getElem_set_ne (by omega)]
  ·rw [List.getElem?_eq_none (by omega),List.getElem?_eq_none (by omega)]
 refine ⟨?_,fun q hq=>?_,?_⟩
 ·rw [hfl,List.length_set];exact h1
 ·obtain ⟨j,hj0,rfl⟩:=List.mem_iff_getElem.1 hq;have hj:j < ur.length:=(by rw [List.length_set] at hj0;exact hj0);by_cases hji:j=i
  ·subst hji;rw [List.getElem_set_self];exact hc
  ·rw [List.getElem_set_ne (by omega)]
   have hap:ur[j].1.ownBlock=none\/ur[j].1.ownBlock ≠ p.1.ownBlock:=by
    have hp:=List.pairwise_iff_getElem.1 h.apart
    rcases Nat.lt_or_gt_of_ne hji with hl | hl
    ·rw [<-ep];exact hp j i hj hil hl
    ·have:=hp i j hil hj hl;rw [ep] at this
     rcases hb:ur[j].1.ownBlock with _ | b
     ·exact .inl rfl
     ·refine .inr (fun e=>?_)
      rcases this with e1 | e1
      ·rw [e1] at e;cases e
      ·exact e1 (e.symm.trans hb.symm)
   exact z05 (h.cells _ (List.getElem_mem hj)) K1 (Nat.zero_le _) (hnn _) hap
 ·rw [List.pairwise_iff_getElem];have hp:=List.pairwise_iff_getElem.1 h.apart;intro a b ha0 hb0 hab;have ha:a < ur.length:=(by rw [List.length_set] at ha0;exact ha0);have hb:b < ur.length:=(by rw [List.length_set] at hb0;exact hb0);rw [hfst a ha,hfst b hb];exact hp a b ha hb hab
theorem z0a.atM {w:World} {base:Nat} {u:Value} {cs:List C} (h:z0a w base u cs) (hs:∀ x ∈ cs,x.s.size<=maxLen):z0T w base u cs:=by
 rcases h.2 with ⟨rfl,hn⟩ | ⟨g,cap,cur,rfl,hg,hc,h1,h2,_⟩
 ·exact ⟨none,0,by rw [hn],by omega,by unfold maxLen;omega,fun i hi=>by omega⟩
 ·refine ⟨_,cap,rfl,h1,h2,fun i hi=>⟨g,0,rfl,(bL hc),hg,?_,?_⟩⟩
  ·have hx:∀ j,j < 11->w.cell? ⟨g,i * 11+j,none⟩=(z01 cs[i])[j]?:=fun j hj=>by
    have e:=z0P z01 11 (fun _=>rfl) cs i hi j hj;rw [z31 h (u:=(z01 cs[i])[j]'(by show j < 11;exact hj)) (by rw [e];simp)];simp
   rw [zI dC hi,Nat.zero_add];exact ⟨hx 0 (by omega),hx 1 (by omega),hx 2 (by omega),hx 3 (by omega),hx 4 (by omega),hx 5 (by omega),hx 6 (by omega),hx 7 (by omega),hx 8 (by omega),hx 9 (by omega),hx 10 (by omega)⟩
  ·rw [zI dC hi];exact hs _ (List.getElem_mem hi)
theorem zD.atM {w:World} {base:Nat} {v:Value} {ur:List (Value × R)} (h:zD w base v ur) (hs:∀ p ∈ ur,∀ x ∈ p.2.cells,x.s.size<=maxLen):zJ w base v (ur.map (·.2)):=by
 have hl:(ur.map (·.2)).length=ur.length:=(by simp)
 rcases h.own.2 with ⟨rfl,hn⟩ | ⟨g,cap,cur,rfl,hg,hc,h1,h2,_⟩
 ·exact ⟨none,0,by rw [hl,hn],by rw [hl];omega,by unfold maxLen;omega,fun i hi=>by rw [hl] at hi;omega⟩
 ·refine ⟨_,cap,by rw [hl],by rw [hl];exact h1,h2,fun i hi=>⟨g,0,rfl,(bL hc),hg,?_⟩⟩;rw [hl] at hi
  have hx:∀ j,j < 2->w.cell? ⟨g,i * 2+j,none⟩=(zG ur[i])[j]?:=fun j hj=>by
   have e:=z0P zG 2 (fun _=>rfl) ur i hi j hj;rw [z31 h.own (u:=(zG ur[i])[j]'(by show j < 2;exact hj)) (by rw [e];simp)];simp
  have hm:=List.getElem_mem hi;dsimp only;rw [zI dR (by rw [hl];exact hi),Nat.zero_add,List.getElem_map];exact ⟨ur[i].1,hx 0 (by omega),hx 1 (by omega),(h.cells _ hm).atM (hs _ hm)⟩
def TxM (t:T):Prop:=∀ r ∈ t.rows,∀ x ∈ r.cells,x.s.size<=maxLen
theorem z0M.cols {w:World} {base:Nat} {vc vr:Value} {t:T} (h:z0M w base vc vr t):zY w base vc t.cols:=by
 obtain ⟨_,_,a,_⟩:=h;exact a.at
theorem z0M.rows {w:World} {base:Nat} {vc vr:Value} {t:T} (h:z0M w base vc vr t) (hs:TxM t):zJ w base vr t.rows:=by
 obtain ⟨ur,e,_,b⟩:=h;rw [<-e];exact b.atM (fun p hp=>hs p.2 (by rw [<-e];exact List.mem_map_of_mem hp))
theorem z0M.kept {w w':World} {base:Nat} {vc vr:Value} {t:T} (h:z0M w base vc vr t) (k:Below w.heap.size w w'):z0M w' base vc vr t:=h.since (.of_below k)
theorem zfv {w:World} {z:Nat} {v:Value} {rs:List R} (h:zJ w z v rs):∀ r ∈ rs,∀ x ∈ r.cells,x.s.size<=maxLen:=by
 intro r hr x hx;obtain ⟨i,hi,rfl⟩:=List.mem_iff_getElem.1 hr;obtain ⟨_,_,_,_,_,_,_,u,_,_,hc⟩:=At.get h hi;rw [zI dR hi] at hc;obtain ⟨j,hj,rfl⟩:=List.mem_iff_getElem.1 hx;obtain ⟨_,_,_,_,_,_,_,_,hs⟩:=At.get hc hj;rw [zI dC hj] at hs;exact hs
theorem z4l {t:T} (h:zq t=true):t.cols.length<=8/\1<=t.rows.length/\t.rows.length<=8/\∀ i,i < t.rows.length->(t.rows.getD i dR).cells.length<=5:=by
 simp only [zq,z1v,inB,Bool.and_eq_true,decide_eq_true_eq,List.all_eq_true] at h;obtain ⟨h1,_,_,⟨h4,_⟩,h5⟩:=h;refine ⟨h4,by omega,by omega,fun i hi=>?_⟩;have:=h5 _ (List.getElem_mem hi);rw [zI dR hi];simp only [z0Y,Bool.and_eq_true,decide_eq_true_eq] at this;exact this.1
structure SmT (t:T):Prop where
 cols:t.cols.length<=8
 rows:t.rows.length<=9
 cells:∀ i,i < t.rows.length->(t.rows.getD i dR).cells.length<=6
theorem Out.kept {w W W':World} {n B D:Nat} (h:Below n w W) (k:Out B D W W') (hn:n<=B):Below n w W':=h.trans (k.below.mono hn)
theorem Out.box {W W':World} {B D b:Nat} {o:Obj} (h:W.heap[b]?=some o) (k:Out B D W W') (hd:b < B\/D<=b):W'.heap[b]?=some o:=by
 rcases hd with hd | hd
 ·exact (k.below.block b hd).trans h
 ·exact (k.block b hd (bL h)).trans h
theorem z1z.tbl {w:World} {B D:Nat} {vc vr:Value} {t:T} {ur:List (Value × R)} (h:z1z w B D vc vr t.cols ur) (hu:ur.map (·.2)=t.rows) (hs:TxM t):z4f w B (.agg #[vc,int i64 t.head,int i64 t.foot,vr,int i64 t.gap]) t :=
 ⟨vc,vr,rfl,h.1.at,by rw [<-hu];exact h.2.1.atM (fun p hp=>hs p.2 (by rw [<-hu];exact List.mem_map_of_mem hp))⟩
def txC (x:C) (s:ByteArray):C:=⟨s,x.c,x.r,x.a1,x.b1,x.a2,x.b2,x.a3,x.b3,x.a4,x.b4⟩
def z0z (t:T) (row at':Int) (s:ByteArray):T × Bool :=
 if zq t=true then (if (z32 t row at' && zC s)=true then (z1A t row.toNat ((t.rows.getD row.toNat dR).cells.set at'.toNat (txC ((t.rows.getD row.toNat dR).cells.getD at'.toNat dC) s)),true) else (t,false)) else (zT,false)
end
end Go.Proofs.YtggmjiddadjilalGreat
