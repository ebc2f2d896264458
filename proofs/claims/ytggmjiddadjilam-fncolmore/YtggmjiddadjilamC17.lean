/-
  PROVED HERE: what is as it was but the blocks from one number on up to another one. Also: 12 more texts of the same proof.
-/
import Derived.Test.YtggmjiddadjilamC9
import Derived.Laws.CopyOwn
import Derived.Shelf.Bits.Mul64
import Derived.Shelf.SlSortCmp.KitK
set_option maxRecDepth 1000000
set_option maxHeartbeats 40000000
namespace Go.Proofs.Ytggmjiddadjilam
section
open Go.RowKit
structure Out (B D:Nat) (w w':World):Prop where
 below:Below B w w'
 block:∀ k,D≤k→k < w.heap.size→w'.heap[k]?=w.heap[k]?
theorem Out.refl (B D:Nat) (w:World):Out B D w w:=⟨Below.refl _ _,fun _ _ _=>rfl⟩
theorem Out.set {B D:Nat} {a w:World} (h:Out B D a w) {p:Addr} (h1:B≤p.block) (h2:p.block < D) (v:Value):Out B D a (w.setCell p v) :=
 ⟨h.below.setCell h1 v,fun k h3 h4=>(Below.heap_setCell _ _ _ _ (by omega)).trans (h.block k h3 h4)⟩
theorem Out.drewN {B D:Nat} {a w:World} (h:Out B D a w) (n:Nat):Out B D a (w.drewN n):=⟨⟨h.below.os,h.below.tape,h.below.output,h.below.size,h.below.block⟩,h.block⟩
def z0x (w:World) (v:Value) (l:List Int):Prop :=
 ∃ (a:Option Addr) (cap:Nat),v=.slice a l.length cap∧l.length≤cap∧cap≤maxLen∧∀ i,i < l.length→∃ b off,a=some ⟨b,off,none⟩∧b < w.heap.size∧w.cell? ⟨b,off+i,none⟩=some (.int .i64 (l.getD i 0))
theorem z0x.form {w:World} {v:Value} {l:List Int} (h:z0x w v l):∃ a cap,v=.slice a l.length cap∧l.length≤9223372036854775807:=by
 obtain ⟨a,cap,hv,h1,h2,_⟩:=h;unfold maxLen at h2;exact ⟨a,cap,hv,by omega⟩
theorem z0x.get {w:World} {v:Value} {l:List Int} (h:z0x w v l) {i:Nat} (hi:i < l.length) :
  ∃ b off cap,v=.slice (some ⟨b,off,none⟩) l.length cap∧l.length≤cap∧cap≤maxLen∧b < w.heap.size∧w.cell? ⟨b,off+i,none⟩=some (.int .i64 (l.getD i 0)):=by
 obtain ⟨a,cap,hv,h1,h2,h3⟩:=h;obtain ⟨b,off,rfl,h4,h5⟩:=h3 i hi;exact ⟨b,off,cap,hv,h1,h2,h4,h5⟩
theorem z0x.kept {w w':World} {v:Value} {l:List Int} (h:z0x w v l) (k:Below w.heap.size w w'):z0x w' v l:=by
 obtain ⟨a,cap,hv,h1,h2,h3⟩:=h;refine ⟨a,cap,hv,h1,h2,fun i hi=>?_⟩;obtain ⟨b,off,h4,h5,h6⟩:=h3 i hi;exact ⟨b,off,h4,Nat.lt_of_lt_of_le h5 k.size,(k.cell (p:=⟨b,off+i,none⟩) h5).trans h6⟩
def z01 (w:World) (B D:Nat) (v:Value) (l:List Int):Prop :=
 (v=.slice none 0 0∧l=[])∨∃ g cap cur,v=.slice (some ⟨g,0,none⟩) l.length cap∧B≤g∧g < D∧w.heap[g]?=some (.cells cur 3 (0,0))∧l.length≤cap∧cap≤maxLen∧cur.size=cap∧∀ i,i < l.length→cur[i]?=some (.int .i64 (l.getD i 0))
theorem z01.at {w:World} {B D:Nat} {v:Value} {l:List Int} (h:z01 w B D v l):z0x w v l:=by
 rcases h with ⟨rfl,rfl⟩ | ⟨g,cap,cur,hv,hb,hd,hg,h1,h2,h3,h4⟩
 ·exact ⟨none,0,rfl,Nat.le_refl _,Nat.zero_le _,fun i hi=>absurd hi (Nat.not_lt_zero _)⟩
 ·exact ⟨_,cap,hv,h1,h2,fun i hi=>⟨g,0,rfl,(bL hg),by rw [Nat.zero_add];exact (zc hg).trans (h4 i hi)⟩⟩
theorem z01.kept {w w':World} {B D:Nat} {v:Value} {l:List Int} (h:z01 w B D v l) (k:∀ j,j < w.heap.size→B≤j→j < D→w'.heap[j]?=w.heap[j]?):z01 w' B D v l:=by
 rcases h with h | ⟨g,cap,cur,hv,hb,hd,hg,r⟩
 ·exact .inl h
 ·exact .inr ⟨g,cap,cur,hv,hb,hd,(k g (bL hg) hb hd).trans hg,r⟩
theorem z01.below {w w':World} {B D C:Nat} {v:Value} {l:List Int} (h:z01 w B D v l) (k:Below C w w') (hC:D≤C):z01 w' B D v l :=
 h.kept (fun j _ _ h2=>k.block j (Nat.lt_of_lt_of_le h2 hC))
theorem z01.base {w:World} {B B' D D':Nat} {v:Value} {l:List Int} (h:z01 w B D v l) (hB:B'≤B) (hD:D≤D'):z01 w B' D' v l:=by
 rcases h with h | ⟨g,cap,cur,hv,hb,hd,r⟩
 ·exact .inl h
 ·exact .inr ⟨g,cap,cur,hv,Nat.le_trans hB hb,Nat.lt_of_lt_of_le hd hD,r⟩
theorem z01.form {w:World} {B D:Nat} {v:Value} {l:List Int} (h:z01 w B D v l):∃ a cap,v=.slice a l.length cap:=by
 rcases h with ⟨rfl,rfl⟩ | ⟨g,cap,cur,hv,_⟩
 ·exact ⟨none,0,rfl⟩
 ·exact ⟨_,_,hv⟩
theorem z01.get {w:World} {B D:Nat} {v:Value} {l:List Int} (h:z01 w B D v l) {i:Nat} (hi:i < l.length) :
  ∃ g cap,v=.slice (some ⟨g,0,none⟩) l.length cap∧B≤g∧g < D∧g < w.heap.size∧l.length≤cap∧cap≤maxLen∧w.cell? ⟨g,i,none⟩=some (.int .i64 (l.getD i 0))∧w.frozen? ⟨g,i,none⟩=false:=by
 rcases h with ⟨_,rfl⟩ | ⟨g,cap,cur,hv,hb,hd,hg,h1,h2,h3,h4⟩
 ·cases hi
 ·exact ⟨g,cap,hv,hb,hd,(bL hg),h1,h2,(zc hg).trans (h4 i hi),zj hg⟩
theorem z01.set {w:World} {B D g cap n:Nat} {l:List Int} (h:z01 w B D (.slice (some ⟨g,0,none⟩) n cap) l) {i:Nat} (hi:i < l.length) (x:Int):z01 (w.setCell ⟨g,i,none⟩ (.int .i64 x)) B D (.slice (some ⟨g,0,none⟩) n cap) (l.set i x):=by
 rcases h with ⟨hv,_⟩ | ⟨g',cap',cur,hv,hb,hd,hg,h1,h2,h3,h4⟩
 ·simp at hv
 ·simp only [Value.slice.injEq,Option.some.injEq,Addr.mk.injEq,and_true] at hv;obtain ⟨rfl,rfl,rfl⟩:=hv;refine .inr ⟨g,cap,cur.setIfInBounds i (.int .i64 x),by simp,hb,hd,zy hg _,by simpa using h1,h2,by simpa using h3,fun j hj=>?_⟩;rw [List.length_set] at hj;by_cases e:i=j
  ·subst e;simp [List.getD,hj,show i < cur.size by omega]
  ·rw [Array.getElem?_setIfInBounds_ne e,h4 j hj];simp [List.getD,e]
theorem z01.out {w w':World} {B D B' D':Nat} {v:Value} {l:List Int} (h:z01 w B D v l) (k:Out B' D' w w') (hd:D≤B'∨D'≤B):z01 w' B D v l :=
 h.kept (fun j h0 h1 h2=>by rcases hd with hd | hd;exact k.below.block j (by omega);exact k.block j (by omega) h0)
def z1h (n:Nat):Array Value:=madeCells (Value.int .i64 0).cells (n * 1)
theorem z2M (n:Nat):(z1h n).size=n:=by rw [z1h,size_madeCells];omega
theorem zas:(Try.prog.info? 3).map (fun i=>(i.zero,i.size,i.bytes))=some (some (Value.int .i64 0),1,8):=by kernel_rfl
theorem z7p (n:Nat) (hn:n≤1048576) (u:World):(Instr.makeSlice 28 (.int .i64 (n:Int)) (.int .i64 (n:Int))).run Try.prog u=.ok (.slice (some ⟨u.heap.size,0,none⟩) n n) (u.alloc (.cells (z1h n) 3)):=by
 obtain ⟨i0,hi,hz0,hz1,hz2⟩:=info_parts zas;have h:=run_make (P:=Try.prog) u 28 3 i0 _ Try.underlying28 hi hz0 .i64 .i64 (n:Int) (n:Int) (by omega) (Int.le_refl _) (by rw [hz2];omega) (by omega);rw [hz1,Int.toNat_natCast] at h;exact h
end
section
open Go.RowKit Go.Shelf Go.Lib
shelf_lay Lays.n212 Nm 212 at Try as bitsMul
def z4n (L:List Value) (k:Nat):Prop:=∀ i,i < k→L[i]?=some (.int .i64 1)
theorem z5h {L:List Value} {k c:Nat} (h:z4n L k) (hc:k+c≤L.length):z4n (splice L k (List.replicate c (.int .i64 1))) (k+c):=by
 intro i hi;unfold splice;by_cases e:i < k
 ·rw [List.getElem?_append_left (by simp;omega),List.getElem?_take_of_lt e];exact h i e
 ·rw [List.getElem?_append_right (by simp;omega),List.getElem?_append_left (by simp;omega)];rw [List.getElem?_replicate,if_pos (by rw [List.length_take];omega)]
theorem uI:(Try.prog.info? 3).map (·.size)=some 1:=by kernel_rfl
theorem z7q (b n:Nat) (h1:1≤n) (hn:n≤100) (w:World) (hb:b < w.heap.size) (hx:w.cell? ⟨b,0,none⟩=some (.int .i64 1)) :
  Calls Try.prog 118 #[.slice (some ⟨b,0,none⟩) 1 1,.int .i64 n] w fun e w'=>∃ a cap,e=.returned (.slice a n cap)∧z01 w' w.heap.size w'.heap.size (.slice a n cap) (List.replicate n 1)∧Below w.heap.size w w':=by
 have hmul:=fun W=>Any.bits_Mul bitsMul 1 n (by omega) (by omega) W;change ∀ W,Calls Try.prog 121 _ _ _ at hmul;have em1:1 * n / 18446744073709551616=0:=(by omega);have em2:1 * n % 18446744073709551616=n:=(by omega);rw [em1,em2] at hmul;have HM:=Hd hmul;have hmk:=z7p n (by omega);have hn0:¬ (n:Int) < 0:=(by omega);clear hmul em1 em2;go_enter Try.func118,Try.ntmps118;go_wp2_with fail
 refine (HM.out _).mono ?_;rintro e w1 ⟨rfl,e1⟩
 cases e1
 have hcp:=run_copy_row (P:=Try.prog) (w.alloc (.cells (z1h n) 3)) 28 28 3 3 w.heap.size 0 n n ⟨b,0,none⟩ 1 1 (z1h n) 3 [.int .i64 1] Try.underlying28 uI (zi _ _) (by simp [Nat.min_def];omega)
  (fun j v hv=>by
   match j,hv with
   | 0,hv=>simp at hv;subst hv;rw [show (⟨b,0,none⟩:Addr).add 0=⟨b,0,none⟩ from rfl];exact ((zb (Below.refl w.heap.size w) _).cell (p:=⟨b,0,none⟩) hb).trans hx)
  (by rw [z2M];simp;omega) (fun v hv=>by simp at hv;subst hv;rfl)
 obtain ⟨w2,hw2⟩:∃ w2,w2=(w.alloc (.cells (z1h n) 3)).setRow w.heap.size ((z1h n).toList.take 0 ++ [Value.int .i64 1] ++ (z1h n).toList.drop (0+[Value.int .i64 1].length)).toArray:=⟨_,rfl⟩;rw [← hw2] at hcp
 have HG:Hid (w2.heap[w.heap.size]?=some (.cells (splice (z1h n).toList 0 [.int .i64 1]).toArray 3 (0,0))):=by
  rw [hw2];show _=_;rw [setRow_heap _ _ _ _ _ _ (zi _ _)];simp [splice]
 have hB:Below w.heap.size w w2:=(by rw [hw2];exact below_setRow (zb (Below.refl _ _) _) (Nat.le_refl _) _);clear hw2;go_wp2_with fail
 clear hcp;have HB:=Hd hB
 have HO:Hid (z4n (splice (z1h n).toList 0 [.int .i64 1]) 1):=by
  have:=z5h (L:=(z1h n).toList) (k:=0) (c:=1) (fun i hi=>absurd hi (Nat.not_lt_zero _)) (by rw [Array.length_toList,z2M];omega);exact this
 have hL0:(z1h n).toList.length=n:=(by rw [Array.length_toList,z2M]);have hL:(splice (z1h n).toList 0 [.int .i64 1]).length=n:=(by rw [length_splice _ _ _ (by rw [hL0];exact h1),hL0]);have hz2:w.heap.size < w2.heap.size:=(bL HG.out);generalize splice (z1h n).toList 0 [.int .i64 1]=L0 at HG HO hL;clear hB hmk;go_loopw [8] (fun s8 W=>∃ (k:Nat) (L:List Value),s8=.int .i64 k∧1≤k∧k≤n∧L.length=n∧Hid (W.heap[w.heap.size]?=some (.cells L.toArray 3 (0,0)))∧Hid (z4n L k)∧Hid (Below w.heap.size w W)∧w.heap.size < W.heap.size) (fun s8 _=>n - (intOf s8).toNat)
 case atStart=>exact ⟨1,L0,rfl,Nat.le_refl _,h1,hL,HG,HO,HB,hz2⟩
 case round =>
  clear HG HO HB hz2 hL;obtain ⟨k,L,rfl,hk1,hk2,hL,HG,HO,HB,hz⟩:=hrel;have HL:=Hd hL;clear hL;by_cases hlt:k < n
  ·have hltz:(k:Int) < (n:Int):=(by omega);obtain ⟨c,hc⟩:∃ c,c=min k (n - k):=⟨_,rfl⟩;have hc1:1≤c:=(by rw [hc,Nat.min_def];split <;> omega);have hc2:k+c≤n:=(by rw [hc,Nat.min_def];split <;> omega);have HC:=Hd hc;have HN:=Hd (z5h (c:=c) HO.out (by rw [HL.out];exact hc2));have HL2:Hid ((splice L k (List.replicate c (.int .i64 1))).length=n):=(by show _=_;rw [length_splice _ _ _ (by rw [HL.out];simp;omega)];exact HL.out);obtain ⟨cs,hcs⟩:∃ cs:List Value,cs=List.replicate c (.int .i64 1):=⟨_,rfl⟩;rw [← hcs] at HN HL2;have hcl:cs.length=c:=(by rw [hcs];simp);have HCS:=Hd hcs;have HCL:=Hd hcl;clear hc hcs hcl
   have hcp:=run_copy_row (P:=Try.prog) wr.drew 28 28 3 3 w.heap.size k (n - k) (n - k) ⟨w.heap.size,0,none⟩ k n L.toArray 3 cs Try.underlying28 uI HG.out (by rw [HCL.out,HC.out])
    (fun j v hv=>by
     have hj:j < cs.length:=(List.getElem?_eq_some_iff.1 hv).1;rw [HCL.out] at hj;rw [HCS.out,List.getElem?_replicate,if_pos hj] at hv;rw [Go.WideShapes.add_plain,Nat.zero_add];have e:c≤k:=(by rw [HC.out];exact Nat.min_le_left _ _);show wr.cell? _=_;rw [zc HG.out,List.getElem?_toArray,HO.out j (by omega)];exact hv)
    (by rw [HCL.out];simp;rw [HL.out];exact hc2) (fun v hv=>by rw [HCS.out] at hv;rw [(List.mem_replicate.1 hv).2];rfl)
   rw [HCL.out] at hcp;obtain ⟨w3,hw3⟩:∃ w3,w3=wr.drew.setRow w.heap.size (L.toArray.toList.take k ++ cs ++ L.toArray.toList.drop (k+c)).toArray:=⟨_,rfl⟩;rw [← hw3] at hcp
   have HG3:Hid (w3.heap[w.heap.size]?=some (.cells (splice L k cs).toArray 3 (0,0))):=by
    rw [hw3];show _=_;rw [setRow_heap wr.drew _ _ _ _ _ HG.out];simp [splice,HCL.out]
   have HB3:Hid (Below w.heap.size w w3):=(by rw [hw3];exact below_setRow (z1N HB.out) (Nat.le_refl _) _);have hz3:w.heap.size < w3.heap.size:=(bL HG3.out);clear hw3;generalize splice L k cs=L3 at HG3 HN HL2;have hk0:(0:Int)≤(k:Int):=(by omega);have enk:((n:Int) - (k:Int)).toNat=n - k:=(by omega);go_wp2_with fail
   go_region
   all_goals
    go_wp2;go_roundw
    case rel=>exact ⟨k+c,L3,by go_num,by omega,hc2,HL2.out,HG3,HN,HB3,hz3⟩
    case measure=>simp [intOf];omega
  ·obtain rfl:k=n:=by omega
   go_wp2;go_ret
   exact ⟨_,_,rfl,.inr ⟨w.heap.size,k,L.toArray,by simp,Nat.le_refl _,hz,HG.out,by simp,by unfold maxLen;omega,by simpa using HL.out,fun i hi=>by
    rw [List.length_replicate] at hi;rw [List.getElem?_toArray,HO.out i hi];simp [List.getD,hi]⟩,HB.out⟩
end
section
open Go.RowKit
def wtB (n:Int):Bool:=decide (0≤n∧n≤100000)
def zR (t:Int) (l:List Int):Bool:=wtB t && decide (l.length≤100) && l.all wtB
theorem z3w (n:Int):inB n 0 100000=wtB n:=rfl
theorem z8T {l:List Int} {k:Nat} (h:k < l.length) (h1:(l.take k).all wtB=true) (h2:wtB (l.getD k 0)=true):(l.take (k+1)).all wtB=true:=by
 rw [List.take_add_one,List.all_append,h1];simp [List.getD,h] at h2 ⊢;exact h2
theorem z9K {l:List Int} {k:Nat} (h:k < l.length) (h2:wtB (l.getD k 0)=false):l.all wtB=false:=by
 rw [List.all_eq_false];refine ⟨l[k],List.getElem_mem h,?_⟩;simp [List.getD,h] at h2;simp [h2]
theorem z34 {l:List Int} (h:l.all wtB=true) {i:Nat} (hi:i < l.length):0≤l.getD i 0∧l.getD i 0≤100000:=by
 have:=List.all_eq_true.1 h (l[i]) (List.getElem_mem hi);simp [wtB] at this
 simpa [List.getD,hi] using this
def z0C (l:List Int) (k:Nat):Int:=(l.take k).sum
theorem z1n {l:List Int} {k:Nat} (h:k < l.length):z0C l (k+1)=z0C l k+l.getD k 0:=by
 rw [z0C,List.take_add_one,List.sum_append,z0C];simp [List.getD,h]
theorem z2o (l:List Int):z0C l l.length=l.sum:=by rw [z0C,List.take_length]
theorem z2Y {l:List Int} (h:l.all wtB=true):∀ k,k≤l.length→0≤z0C l k∧z0C l k≤k * 100000
 | 0,_=>by simp [z0C]
 | k+1,hk=>by
  have h1:=z2Y h k (by omega);have h2:=z34 h (i:=k) (by omega);rw [z1n (by omega)];omega
theorem z3x {l:List Int} (h:l.all wtB=true):0≤l.sum∧l.sum≤l.length * 100000:=by
 have:=z2Y h l.length (Nat.le_refl _)
 rwa [z2o] at this
theorem z1r {t:Int} {l:List Int} (h:zR t l=true):(0≤t∧t≤100000)∧l.length≤100∧l.all wtB=true:=by
 simp only [zR,Bool.and_eq_true,decide_eq_true_eq] at h;obtain ⟨⟨h1,h2⟩,h3⟩:=h;simp only [wtB,decide_eq_true_eq] at h1;exact ⟨h1,h2,h3⟩
theorem z5I (v:Value) (l:List Int) (hl:l.length≤1000) (hw:l.all wtB=true) (w:World) (h:z0x w v l) :
  Calls Try.prog 108 #[v] w fun e w'=>e=.returned (.int .i64 l.sum)∧w'=w:=by
 obtain ⟨a,cap,rfl,_⟩:=h.form;have H:=Hd h;have HW:=Hd (z2Y hw);have HG:=Hd (fun i hi=>z34 (i:=i) hw hi);clear h hw;go_enter Try.func108,Try.ntmps108;go_wp2_with fail
 go_loop [3,8] (fun s i=>∃ k:Nat,k≤l.length∧i=.int .i64 k∧s=.int .i64 (z0C l k)) (fun _ i=>l.length - (intOf i).toNat)
 case atStart=>exact ⟨0,Nat.zero_le _,rfl,by simp [z0C]⟩
 case round =>
  obtain ⟨k,hk,rfl,rfl⟩:=hrel;by_cases hlt:k < l.length
  ·obtain ⟨b,off,cap',e',hc1,hc2,hbl,hx⟩:=H.out.get hlt;simp only [Value.slice.injEq,true_and] at e';obtain ⟨rfl,rfl⟩:=e';have hb1:=HW.out k hk;have hb2:=HG.out k hlt;have HS:=Hd (z1n hlt);generalize l.getD k 0=x at hx HS hb2;generalize z0C l k=s at HS hb1;unfold maxLen at hc2;go_wp2
   go_round
   case rel=>exact ⟨k+1,by omega,by go_num,by rw [HS.out]⟩
   case measure=>simp [intOf];omega
  ·obtain rfl:k=l.length:=by omega
   have HE:=Hd (z2o l);go_wp2;go_ret;exact ⟨by rw [← HE.out];rfl,rfl⟩
theorem z81 (t:Int) (v:Value) (l:List Int) (w:World) (h:z0x w v l) :
  Calls Try.prog 109 #[.int .i64 t,v] w fun e w'=>e=.returned (.bool (zR t l))∧w'=w:=by
 obtain ⟨a,cap,rfl,hlen⟩:=h.form;have H:=Hd h;clear h;have HC:=Hd (fun n=>zo n 0 100000);by_cases ht:wtB t=true
 ·by_cases hl:(100:Int) < (l.length:Int)
  ·have HF:Hid (zR t l=false):=(by show _=_;simp [zR];omega);go_enter Try.func109,Try.ntmps109;go_wp2_with fail
   refine (HC.out _ _).mono ?_;rintro e w1 ⟨rfl,rfl⟩;rw [z3w,ht];go_wp2;go_ret;exact ⟨zB HF.out.symm,rfl⟩
  ·go_enter Try.func109,Try.ntmps109;go_wp2_with fail
   refine (HC.out _ _).mono ?_;rintro e w1 ⟨rfl,rfl⟩;rw [z3w,ht];go_wp2_with fail
   go_loop [17] (fun i=>∃ k:Nat,k≤l.length∧i=.int .i64 k∧Hid ((l.take k).all wtB=true)) (fun i=>l.length - (intOf i).toNat)
   case atStart=>exact ⟨0,Nat.zero_le _,rfl,by simp [Hid]⟩
   case round =>
    obtain ⟨k,hk,rfl,HA⟩:=hrel;by_cases hlt:k < l.length
    ·obtain ⟨b,off,cap',e',hc1,hc2,hbl,hx⟩:=H.out.get hlt;simp only [Value.slice.injEq,true_and] at e';obtain ⟨rfl,rfl⟩:=e';unfold maxLen at hc2;by_cases hy:wtB (l.getD k 0)=true
     ·have HN:=Hd (z8T hlt HA.out hy);generalize l.getD k 0=x at hx hy;go_wp2_with fail
      refine (HC.out _ _).mono ?_;rintro e w1 ⟨rfl,rfl⟩;rw [z3w,hy];go_wp2
      go_round
      case rel=>exact ⟨k+1,by omega,by go_num,HN⟩
      case measure=>simp [intOf];omega
     ·have hy':=eq_false_of_ne_true hy;have HF:Hid (zR t l=false):=(by show _=_;simp only [zR,z9K hlt hy',Bool.and_false]);generalize l.getD k 0=x at hx hy';go_wp2_with fail
      refine (HC.out _ _).mono ?_;rintro e w1 ⟨rfl,rfl⟩;rw [z3w,hy'];go_wp2;go_ret;exact ⟨zB HF.out.symm,rfl⟩
    ·obtain rfl:k=l.length:=by omega
     have HF:Hid (zR t l=true):=(by have h1:=HA.out;rw [List.take_length] at h1;show _=_;simp only [zR,ht,h1,Bool.and_true,Bool.true_and,decide_eq_true_eq];omega);go_wp2;go_ret;exact ⟨zB HF.out.symm,rfl⟩
 ·have ht':=eq_false_of_ne_true ht;have HF:Hid (zR t l=false):=(by show _=_;simp only [zR,ht',Bool.false_and]);go_enter Try.func109,Try.ntmps109;go_wp2_with fail
  refine (HC.out _ _).mono ?_;rintro e w1 ⟨rfl,rfl⟩;rw [z3w,ht'];go_wp2;go_ret;exact ⟨zB HF.out.symm,rfl⟩
def z48 (t:Int) (l:List Int) (k:Int):Int:=if zR t l && inB k 0 (l.length - 1) && l.sum != 0 then t * l.getD k.toNat 0 / l.sum else 0
theorem z75 {t:Int} {l:List Int} {k:Int} (h1:zR t l=true) (h2:inB k 0 (l.length - 1)=true) (h3:l.sum ≠ 0):z48 t l k=t * l.getD k.toNat 0 / l.sum:=by
 rw [z48,if_pos];simp [h1,h2,h3]
theorem z2N {t x:Int} (h1:0≤t∧t≤100000) (h2:0≤x∧x≤100000):0≤t * x∧t * x≤10000000000 :=
 ⟨Int.mul_nonneg h1.1 h2.1,Int.le_trans (Int.mul_le_mul h1.2 h2.2 h2.1 (by omega)) (by omega)⟩
end
section
open Go.RowKit Go.Shelf Go.Lib Go.Sort
structure Cl where
 p:Int
 w:Int
 o:Int
deriving Inhabited
def z0u (x:Cl):List Value:=[.int .i64 x.p,.int .i64 x.w,.int .i64 x.o]
def cfC (x y:Cl):Int:=if y.o < x.o then -1 else if x.o < y.o then 1 else 0
theorem z49 (x:Cl):(z0u x).length=3:=rfl
theorem z4a (x:Cl):∀ v ∈ z0u x,v.oneCell'=true:=fun v hv=>by simp [z0u] at hv;rcases hv with rfl | rfl | rfl <;> rfl
def wts (l:List Int):List Int:=if l.sum=0 then List.replicate l.length 1 else l
theorem z29 (l:List Int):(wts l).length=l.length:=by unfold wts;split <;> simp
theorem z4b:∀ n:Nat,(List.replicate n (1:Int)).sum=n
 | 0=>rfl
 | n+1=>by rw [List.replicate_succ,List.sum_cons,z4b n];omega
theorem z5V {l:List Int} (h:l.all wtB=true):(wts l).all wtB=true:=by
 unfold wts
 split
 ·rw [List.all_eq_true];intro x hx;rw [(List.mem_replicate.1 hx).2];rfl
 ·exact h
theorem z3R {l:List Int} (h:l.all wtB=true) (h0:0 < l.length):0 < (wts l).sum:=by
 unfold wts
 split
 ·rw [z4b];omega
 ·have:=(z3x h).1;omega
def cl (t:Int) (u:List Int) (i:Nat):Cl:=⟨i,t * u.getD i 0 / u.sum,t * u.getD i 0 % u.sum⟩
def clL (t:Int) (u:List Int):List Cl:=(List.range u.length).map (cl t u)
theorem z2a (t:Int) (u:List Int):(clL t u).length=u.length:=by simp [clL]
theorem z76 {t:Int} {u:List Int} {i:Nat} (h:i < u.length):(clL t u)[i]?=some (cl t u i):=by simp [clL,h]
theorem z3S {t:Int} {u:List Int} {i:Nat} (h:i < u.length):(clL t u).toArray[i]! = cl t u i:=by
 rw [getElem!_def,List.getElem?_toArray,z76 h]
def z4o (n:Nat):Array Value:=madeCells (Value.agg #[.int .i64 0,.int .i64 0,.int .i64 0]).cells (n * 3)
theorem z4p (n:Nat):(z4o n).size=n * 3:=by rw [z4o,size_madeCells]
theorem zaa:(Try.prog.info? 163).map (fun i=>(i.zero,i.size,i.bytes))=some (some (Value.agg #[.int .i64 0,.int .i64 0,.int .i64 0]),3,24):=by kernel_rfl
theorem zab (n:Nat) (hn:n≤1048576) (u:World):(Instr.makeSlice 160 (.int .i64 (n:Int)) (.int .i64 (n:Int))).run Try.prog u=.ok (.slice (some ⟨u.heap.size,0,none⟩) n n) (u.alloc (.cells (z4o n) 163)):=by
 obtain ⟨i0,hi,hz0,hz1,hz2⟩:=info_parts zaa;have h:=run_make (P:=Try.prog) u 160 163 i0 _ Try.underlying160 hi hz0 .i64 .i64 (n:Int) (n:Int) (by omega) (Int.le_refl _) (by rw [hz2];omega) (by omega);rw [hz1,Int.toNat_natCast] at h;exact h
def z3a (arr:Array Value) (L:Nat→Cl) (k:Nat):Prop:=∀ i,i < k→arr[i * 3]?=some (.int .i64 (L i).p)∧arr[i * 3+1]?=some (.int .i64 (L i).w)∧arr[i * 3+2]?=some (.int .i64 (L i).o)
theorem z3a.next {arr:Array Value} {L:Nat→Cl} {k n:Nat} (h:z3a arr L k) (hs:arr.size=n * 3) (hk:k < n) :
  z3a (((arr.setIfInBounds (k * 3) (.int .i64 (L k).p)).setIfInBounds (k * 3+1) (.int .i64 (L k).w)).setIfInBounds (k * 3+2) (.int .i64 (L k).o)) L (k+1):=by
 have eq:∀ (A:Array Value) (i:Nat) (v:Value),i < A.size→(A.setIfInBounds i v)[i]?=some v:=fun A i v hi=>by simp [hi]
 intro i hi
 rcases Nat.lt_or_eq_of_le (Nat.lt_succ_iff.1 hi) with hlt | rfl
 ·obtain ⟨h1,h2,h3⟩:=h i hlt;refine ⟨?_,?_,?_⟩
  ·rw [Array.getElem?_setIfInBounds_ne (by omega),Array.getElem?_setIfInBounds_ne (by omega),Array.getElem?_setIfInBounds_ne (by omega)];exact h1
  ·rw [Array.getElem?_setIfInBounds_ne (by omega),Array.getElem?_setIfInBounds_ne (by omega),Array.getElem?_setIfInBounds_ne (by omega)];exact h2
  ·rw [Array.getElem?_setIfInBounds_ne (by omega),Array.getElem?_setIfInBounds_ne (by omega),Array.getElem?_setIfInBounds_ne (by omega)];exact h3
 ·refine ⟨?_,?_,?_⟩
  ·rw [Array.getElem?_setIfInBounds_ne (by omega),Array.getElem?_setIfInBounds_ne (by omega)];exact eq _ _ _ (by omega)
  ·rw [Array.getElem?_setIfInBounds_ne (by omega)];exact eq _ _ _ (by rw [Array.size_setIfInBounds];omega)
  ·exact eq _ _ _ (by rw [Array.size_setIfInBounds,Array.size_setIfInBounds];omega)
theorem z5W {w:World} {g n:Nat} {arr:Array Value} {T:TypeId} {L:Nat→Cl} {d:Array Cl} (hg:w.heap[g]?=some (.cells arr T)) (ha:z3a arr L n) (hd:d.size=n) (hL:∀ i,i < n→d[i]! = L i):HoldsK z0u 3 w g 0 d:=by
 intro j hj;rw [size_flatK,hd] at hj;have hq:j / 3 < n:=(by omega);obtain ⟨h1,h2,h3⟩:=ha (j / 3) hq;refine ⟨?_,zj hg⟩;rw [Nat.zero_add,zc hg,get_flatK _ _ _ _ (by rw [hd];exact hj),hL _ hq];show arr[j]?=some ((z0u (L (j / 3)))[j % 3]!)
 rcases (by omega:j % 3=0∨j % 3=1∨j % 3=2) with e | e | e
 ·rw [e];rw [show j=j / 3 * 3 by omega];rw [Nat.mul_div_cancel _ (by omega)];exact h1
 ·rw [e,show arr[j]?=arr[j / 3 * 3+1]? from by congr 1;omega];exact h2
 ·rw [e,show arr[j]?=arr[j / 3 * 3+2]? from by congr 1;omega];exact h3
theorem z4q {w:World} {g:Nat} {arr:Array Value} {t:Int} {u:List Int} (hg:w.heap[g]?=some (.cells arr 163)) (ha:z3a arr (cl t u) u.length):RowK z0u 3 w g 0 (clL t u).toArray :=
 ⟨z49,z4a,z5W hg ha (by simp [z2a]) (fun _ hi=>z3S hi),(bL hg)⟩
theorem z5i {a s:Int} (hs:0 < s):0≤a % s∧a % s < s:=⟨Int.emod_nonneg _ (by omega),Int.emod_lt_of_pos _ hs⟩
theorem z5X (t:Int) (v:Value) (l:List Int) (ht:0≤t∧t≤100000) (h0:0 < l.length) (hl:l.length≤100) (hw:l.all wtB=true) (w:World) (h:z0x w v l) :
  Calls Try.prog 115 #[.int .i64 t,v] w fun e w'=>∃ g,e=.returned (.slice (some ⟨g,0,none⟩) l.length l.length)∧w.heap.size≤g∧RowK z0u 3 w' g 0 (clL t (wts l)).toArray∧Below w.heap.size w w':=by
 obtain ⟨a,cap,rfl,_⟩:=h.form;have H:=Hd h;clear h;have HS:=Hd (fun W=>z5I (.slice a l.length cap) l (by omega) hw W);have hmk:=zab l.length (by omega);have hpos:=z3R hw h0;have hsb:=z3x (z5V hw);rw [z29] at hsb;have HWT:=Hd (z5V hw);have HLN:=Hd (z29 l);by_cases hz:l.sum=0
 ·have hwt:wts l=List.replicate l.length 1:=(by rw [wts,if_pos hz]);have hsum:(wts l).sum=l.length:=(by rw [hwt,z4b]);have HZ:=Hd hz;have HSM:=Hd hsum;have HU:=Hd hwt;rw [hz] at HS;rw [hsum] at hpos hsb;generalize wts l=u at HWT HLN HSM HU ⊢;clear hz hsum hwt hw;go_enter Try.func115,Try.ntmps115;go_wp2_with fail
  refine (HS.out _ H.out).mono ?_;rintro e w1 ⟨rfl,e1⟩
  cases e1
  go_wp2_with fail
  refine (z7q w.heap.size l.length h0 hl _ (by simp) (by simp)).mono ?_;rintro e w2 ⟨a2,cap2,rfl,hr2,hb2⟩
  have R2:Hid (z0x w2 (.slice a2 l.length cap2) u):=by
   have:=hr2.at;rw [← HU.out] at this;exact this
  have K2:=Hd (zh (zb (Below.refl w.heap.size w) (.cells #[.int .i64 1] 3)) hb2);clear hr2 hb2;go_wp2_with fail
  clear hmk;have hw2:=K2.out.size;go_loopw [24] (fun i W=>∃ (k:Nat) (arr:Array Value),k≤l.length∧i=.int .i64 k∧Hid (W.heap[w2.heap.size]?=some (.cells arr 163))∧arr.size=l.length * 3∧Hid (z3a arr (cl t u) k)∧Hid (Below w2.heap.size w2 W)) (fun i _=>l.length - (intOf i).toNat)
  case atStart=>exact ⟨0,z4o l.length,Nat.zero_le _,rfl,zi _ _,z4p _,fun i hi=>absurd hi (Nat.not_lt_zero _),zb (Below.refl _ _) _⟩
  case round =>
   obtain ⟨k,arr,hk,rfl,HBk,hsz,HA,HB⟩:=hrel;by_cases hlt:k < l.length
   ·have hku:k < u.length:=(by rw [HLN.out];exact hlt);obtain ⟨b,off,cap',e',hc1,hc2,hbl,hx⟩:=(R2.out.kept HB.out).get hku;rw [HLN.out] at e' hc1;simp only [Value.slice.injEq,true_and] at e';obtain ⟨rfl,rfl⟩:=e';have hx0:=z34 HWT.out hku;have hm:=z2N ht hx0;have HN:=Hd (HA.out.next (n:=l.length) hsz hlt);have ecl:cl t u k=⟨k,t * u.getD k 0 / l.length,t * u.getD k 0 % l.length⟩:=(by rw [cl,HSM.out]);rw [ecl] at HN;generalize u.getD k 0=x at hx hx0 hm HN;clear ecl hku;unfold maxLen at hc2;obtain ⟨y0,q0⟩:=z2w (p:=k * 3) HBk.out (by omega);obtain ⟨y1,q1⟩:=z2w (p:=k * 3+1) HBk.out (by omega);obtain ⟨y2,q2⟩:=z2w (p:=k * 3+2) HBk.out (by omega);have fz:∀ p,wr.frozen? ⟨w2.heap.size,p,none⟩=false:=fun p=>zj HBk.out;have hdv:=Int.ediv_nonneg hm.1 (show (0:Int)≤(l.length:Int) by omega);have hdw:=Int.le_trans (Int.ediv_le_self (l.length:Int) hm.1) hm.2;have hrm:=z5i (a:=t * x) (s:=(l.length:Int)) (by omega);go_wp2_with fail
    go_region
    all_goals
     go_wp2;go_roundw
     case rel=>exact ⟨k+1,_,by omega,by go_num,zy (zy (zy HBk.out _) _) _,by rw [Array.size_setIfInBounds,Array.size_setIfInBounds,Array.size_setIfInBounds];exact hsz,HN,zl (zl (zl (z1N HB.out) (Nat.le_refl _) _) (Nat.le_refl _) _) (Nat.le_refl _) _⟩
     case measure=>simp [intOf];omega
   ·obtain rfl:k=l.length:=by omega
    go_wp2;go_ret;exact ⟨_,rfl,hw2,z4q HBk.out (by rw [HLN.out];exact HA.out),zh K2.out HB.out⟩
 ·have hwt:wts l=l:=(by rw [wts,if_neg hz]);rw [hwt] at hpos hsb ⊢;have hzb:(l.sum == 0)=false:=(by simpa using hz);have HG:=Hd (fun i hi=>z34 (i:=i) hw hi);have HSM:Hid (∀ k,cl t l k=⟨k,t * l.getD k 0 / l.sum,t * l.getD k 0 % l.sum⟩):=fun _=>rfl;generalize l.sum=s at HS HSM hpos hsb hzb hz;clear HWT HLN hwt hw;go_enter Try.func115,Try.ntmps115;go_wp2_with fail
  refine (HS.out _ H.out).mono ?_;rintro e w1 ⟨rfl,e1⟩
  cases e1
  go_wp2_with fail
  clear hmk;go_loopw [24] (fun i W=>∃ (k:Nat) (arr:Array Value),k≤l.length∧i=.int .i64 k∧Hid (W.heap[w.heap.size]?=some (.cells arr 163))∧arr.size=l.length * 3∧Hid (z3a arr (cl t l) k)∧Hid (Below w.heap.size w W)) (fun i _=>l.length - (intOf i).toNat)
  case atStart=>exact ⟨0,z4o l.length,Nat.zero_le _,rfl,zi _ _,z4p _,fun i hi=>absurd hi (Nat.not_lt_zero _),zb (Below.refl _ _) _⟩
  case round =>
   obtain ⟨k,arr,hk,rfl,HBk,hsz,HA,HB⟩:=hrel;by_cases hlt:k < l.length
   ·obtain ⟨b,off,cap',e',hc1,hc2,hbl,hx⟩:=(H.out.kept HB.out).get hlt;simp only [Value.slice.injEq,true_and] at e';obtain ⟨rfl,rfl⟩:=e';have hx0:=HG.out k hlt;have hm:=z2N ht hx0;have HN:=Hd (HA.out.next (n:=l.length) hsz hlt);rw [HSM.out k] at HN;generalize l.getD k 0=x at hx hx0 hm HN;unfold maxLen at hc2;obtain ⟨y0,q0⟩:=z2w (p:=k * 3) HBk.out (by omega);obtain ⟨y1,q1⟩:=z2w (p:=k * 3+1) HBk.out (by omega);obtain ⟨y2,q2⟩:=z2w (p:=k * 3+2) HBk.out (by omega);have fz:∀ p,wr.frozen? ⟨w.heap.size,p,none⟩=false:=fun p=>zj HBk.out;have hdv:=Int.ediv_nonneg hm.1 (show (0:Int)≤s by omega);have hdw:=Int.le_trans (Int.ediv_le_self s hm.1) hm.2;have hrm:=z5i (a:=t * x) (s:=s) (by omega);go_wp2_with fail
    go_region
    all_goals
     go_wp2;go_roundw
     case rel=>exact ⟨k+1,_,by omega,by go_num,zy (zy (zy HBk.out _) _) _,by rw [Array.size_setIfInBounds,Array.size_setIfInBounds,Array.size_setIfInBounds];exact hsz,HN,zl (zl (zl (z1N HB.out) (Nat.le_refl _) _) (Nat.le_refl _) _) (Nat.le_refl _) _⟩
     case measure=>simp [intOf];omega
   ·obtain rfl:k=l.length:=by omega
    go_wp2;go_ret;exact ⟨_,rfl,Nat.le_refl _,z4q HBk.out HA.out,HB.out⟩
end
section
open Go.RowKit
def z0s (t:Int) (l:List Int):Nat→Int
 | 0=>0
 | k+1=>z0s t l k+z48 t l k
theorem z77 {l:List Int} {k:Nat} (h:k < l.length):inB (k:Int) 0 ((l.length:Int) - 1)=true:=z1v (by omega) (by omega)
theorem z8U {a s:Int} (hs:0 < s):s * (a / s)≤a∧a≤s * (a / s)+(s - 1):=by
 have h1:=Int.mul_ediv_add_emod a s;have h2:=Int.emod_nonneg a (show s ≠ 0 by omega);have h3:=Int.emod_lt_of_pos a hs
 constructor <;> omega
theorem z4r {t:Int} {l:List Int} (h:zR t l=true) (hs:0 < l.sum):∀ k,k≤l.length→l.sum * z0s t l k≤t * z0C l k∧t * z0C l k≤l.sum * z0s t l k+k * (l.sum - 1)
 | 0,_=>by simp [z0s,z0C]
 | k+1,hk=>by
  obtain ⟨h1,h2⟩:=z4r h hs k (by omega);have hlt:k < l.length:=(by omega);obtain ⟨h3,h4⟩:=z8U (a:=t * l.getD k 0) hs;rw [z0s,z75 h (z77 hlt) (by omega),z1n hlt,Int.toNat_natCast,Int.mul_add,Int.mul_add];have e:((k+1:Nat):Int) * (l.sum - 1)=(k:Int) * (l.sum - 1)+(l.sum - 1):=(by rw [Int.natCast_add,Int.add_mul];simp);rw [e]
  constructor <;> omega
theorem z2F {t:Int} {l:List Int} (h:zR t l=true) (hs:0 < l.sum):z0s t l l.length≤t∧t - l.length < z0s t l l.length:=by
 obtain ⟨h1,h2⟩:=z4r h hs l.length (Nat.le_refl _);rw [z2o] at h1 h2
 have hl:0 < l.length:=by
  rcases Nat.eq_zero_or_pos l.length with h0 | h0
  ·rw [List.eq_nil_of_length_eq_zero h0] at hs;simp at hs
  ·exact h0
 generalize l.sum=s at *;generalize z0s t l l.length=d at *;generalize l.length=n at *;rw [Int.mul_comm t s] at h1 h2;constructor
 ·exact Int.le_of_mul_le_mul_left h1 hs
 ·apply Int.lt_of_mul_lt_mul_left (a:=s) _ (by omega);rw [Int.mul_sub];have e:(n:Int) * (s - 1)=s * n - n:=(by rw [Int.mul_sub,Int.mul_one,Int.mul_comm]);omega
theorem z3V {t:Int} {l:List Int} (k:Int):0≤z48 t l k∧z48 t l k≤10000000000:=by
 by_cases h:(zR t l && inB k 0 (l.length - 1) && l.sum != 0)=true
 ·rw [z48,if_pos h];simp only [Bool.and_eq_true,bne_iff_ne] at h;obtain ⟨⟨h1,h2⟩,h3⟩:=h;obtain ⟨ht,hl,hw⟩:=z1r h1;have hk:0≤k∧k≤(l.length:Int) - 1:=(by simpa [inB] using h2);have hm:=z2N ht (z34 hw (i:=k.toNat) (by omega));have hs:=(z3x hw).1;exact ⟨Int.ediv_nonneg hm.1 hs,Int.le_trans (Int.ediv_le_self _ hm.1) hm.2⟩
 ·rw [z48,if_neg h];omega
theorem z3b {t:Int} {l:List Int}:∀ k:Nat,0≤z0s t l k∧z0s t l k≤k * 10000000000
 | 0=>by simp [z0s]
 | k+1=>by
  have h1:=z3b (t:=t) (l:=l) k;have h2:=z3V (t:=t) (l:=l) k;rw [z0s];omega
end
section
open Go.Sort
theorem z9L (x y:Cl):ltOf cfC x y=decide (y.o < x.o):=by
 unfold ltOf cfC
 split
 ·simp;omega
 ·split <;> (simp;omega)
def tB (x y:Cl):Bool:=decide (y.o < x.o∨(x.o=y.o∧(x.p < y.p∨(x.p=y.p∧x.w < y.w))))
theorem z5Y (x y:Cl):tB x y=true ↔ (y.o < x.o∨(x.o=y.o∧(x.p < y.p∨(x.p=y.p∧x.w < y.w)))):=by simp [tB]
theorem z5Z (x y:Cl):tB x y=false ↔ ¬ (y.o < x.o∨(x.o=y.o∧(x.p < y.p∨(x.p=y.p∧x.w < y.w)))):=by rw [← z5Y];simp
theorem z2b:SWO tB where
 irrefl:=fun x=>by rw [z5Z];omega
 trans:=fun x y z h1 h2=>by rw [z5Y] at *;omega
 ntrans:=fun x y z h1 h2=>by rw [z5Z] at *;omega
theorem z8V (x y:Cl) (h1:tB x y=false) (h2:tB y x=false):x=y:=by
 rw [z5Z] at h1 h2;obtain ⟨a,b,c⟩:=x;obtain ⟨a',b',c'⟩:=y;simp only at h1 h2;obtain rfl:a=a':=by omega
 obtain rfl:b=b':=by omega
 obtain rfl:c=c':=by omega
 rfl
theorem z5S {x y:Cl} (h:y.p < x.p):ltOf cfC x y=tB x y:=by
 rw [z9L,Bool.eq_iff_iff,z5Y,decide_eq_true_eq];omega
theorem z3c {x y:Cl} (h:tB x y=true):tB y x=false:=z2b.asymmA h
theorem z4s (lt:Cl→Cl→Bool) (a b:Nat):∀ (j:Nat) (d:Array Cl),a≤j→j < b→b≤d.size→PermIn a b d (insInner lt a j d)
 | 0,d,_,_,_=>by unfold insInner;exact permIn_refl d a b
 | j+1,d,haj,hjb,hb=>by
  unfold insInner
  split
  ·rename_i hc
   simp only [Bool.and_eq_true,decide_eq_true_eq] at hc;exact permIn_trans _ _ _ a b (swp_permIn d a b (j+1) j haj hjb (by omega) (by omega) hb) (z4s lt a b j _ (by omega) (by omega) (by rw [size_swp];exact hb))
  ·exact permIn_refl d a b
theorem z60 (a:Nat):∀ (j:Nat) (d:Array Cl),j < d.size→(∀ q,a≤q→q < j→d[q]!.p < d[j]!.p)→insInner (ltOf cfC) a j d=insInner tB a j d
 | 0,d,_,_=>by unfold insInner;rfl
 | j+1,d,hj,h=>by
  unfold insInner;by_cases ha:j+1 > a
  ·have e:ltOf cfC d[j+1]! d[j]! = tB d[j+1]! d[j]! := z5S (h j (by omega) (by omega));rw [e]
   cases hc:tB d[j+1]! d[j]!
   ·simp
   ·simp only [ha,decide_true,Bool.and_self,if_true];refine z60 a j _ (by rw [size_swp];omega) (fun q h1 h2=>?_);rw [swp_right _ _ _ (by omega),swp_other _ _ _ _ (by omega) (by omega)];exact h q h1 (by omega)
  ·simp [ha]
theorem z61 (a b:Nat):∀ (n i:Nat) (d:Array Cl),b - i=n→a < i→b≤d.size→(∀ x y,a≤x→x < y→i≤y→y < b→d[x]!.p < d[y]!.p)→insOuter (ltOf cfC) a b i d=insOuter tB a b i d
 | 0,i,d,hn,_,_,_=>by rw [insOuter_stop _ _ _ _ _ (by omega),insOuter_stop _ _ _ _ _ (by omega)]
 | n+1,i,d,hn,hai,hb,h=>by
  have hlt:i < b:=(by omega);rw [insOuter_go _ _ _ _ _ hlt,insOuter_go _ _ _ _ _ hlt,z60 a i d (by omega) (fun q h1 h2=>h q i h1 h2 (Nat.le_refl _) hlt)];have hP:=z4s tB a (i+1) i d (by omega) (by omega) (by omega);refine z61 a b n (i+1) _ (by omega) (by omega) (by rw [hP.1];exact hb) (fun x y h1 h2 h3 h4=>?_);rw [hP.2.1 y (Or.inr h3)];by_cases hx:x < i+1
  ·exact permIn_all d _ a (i+1) (fun z=>z.p < d[y]!.p) (by omega) hP (fun q h5 h6=>h q y h5 (by omega) (by omega) h4) x h1 hx
  ·rw [hP.2.1 x (Or.inr (by omega))];exact h x y h1 h2 (by omega) h4
def Asc (a b:Nat) (d:Array Cl):Prop:=∀ x y,a≤x→x < y→y < b→d[x]!.p < d[y]!.p
theorem z5j (d:Array Cl) (a b:Nat) (hab:a≤b) (hb:b≤d.size) (h:Asc a b d):PermIn a b d (Sort.insertionSort (ltOf cfC) d a b)∧SortedIn tB a b (Sort.insertionSort (ltOf cfC) d a b):=by
 have e:Sort.insertionSort (ltOf cfC) d a b=Sort.insertionSort tB d a b:=by
  unfold Sort.insertionSort;exact z61 a b (b - (a+1)) (a+1) d rfl (by omega) hb (fun x y h1 h2 _ h4=>h x y h1 h2 h4)
 rw [e];exact insertionSort_holds z2b d a b hab hb
def z0D (t:Int) (u:List Int):List Int:=(clL t u).map (·.w)
theorem z0A (t:Int) (u:List Int):(z0D t u).length=u.length:=by simp [z0D,z2a]
theorem z2O {t:Int} {u:List Int} {i:Nat} (h:i < u.length):(z0D t u).getD i 0=t * u.getD i 0 / u.sum:=by
 rw [List.getD,z0D,List.getElem?_map,z76 h];rfl
theorem z2P {t:Int} {l:List Int} (h:zR t l=true):zR t (wts l)=true:=by
 simp only [zR,Bool.and_eq_true] at h ⊢;obtain ⟨⟨h1,h2⟩,h3⟩:=h;exact ⟨⟨h1,by rw [z29];exact h2⟩,z5V h3⟩
theorem z2G {t:Int} {u:List Int} (h:zR t u=true) (hs:0 < u.sum):∀ k,k≤u.length→z0C (z0D t u) k=z0s t u k
 | 0,_=>by simp [z0C,z0s]
 | k+1,hk=>by
  have hlt:k < u.length:=(by omega);rw [z1n (by rw [z0A];exact hlt),z2G h hs k (by omega),z2O hlt,z0s,z75 h (z77 hlt) (by omega),Int.toNat_natCast]
theorem z3d {t:Int} {u:List Int}:∀ {i j:Nat},i≤j→z0s t u i≤z0s t u j
 | i,0,h=>by
  obtain rfl:i=0:=by omega
  exact Int.le_refl _
 | i,j+1,h=>by
  rcases Nat.lt_or_eq_of_le h with h1 | rfl
  ·have:=z3d (t:=t) (u:=u) (i:=i) (j:=j) (by omega);have:=(z3V (t:=t) (l:=u) j).1;rw [z0s];omega
  ·exact Int.le_refl _
def z3e (t:Int) (u:List Int):Nat:=(t - z0s t u u.length).toNat
theorem z4Z {t:Int} {u:List Int} (h:zR t u=true) (hs:0 < u.sum):(z3e t u:Int)=t - z0s t u u.length∧z3e t u < u.length:=by
 have:=z2F h hs;unfold z3e;omega
theorem zac (t:Int) (u:List Int):Asc 0 (clL t u).toArray.size (clL t u).toArray:=by
 intro x y _ h1 h2;have h3:y < u.length:=(by simpa [z2a] using h2);rw [z3S (by omega),z3S h3];show (x:Int) < (y:Int);omega
def z0E (t:Int) (u:List Int):List Cl:=(clL t u).mergeSort (fun x y=>!tB y x)
theorem z3f (t:Int) (u:List Int):(z0E t u).length=u.length:=by rw [z0E,List.length_mergeSort,z2a]
theorem z62 {t:Int} {u:List Int} {c:Cl} (h:c ∈ z0E t u):∃ i,i < u.length∧c=cl t u i:=by
 rw [z0E,List.mem_mergeSort,clL,List.mem_map] at h;obtain ⟨i,h1,h2⟩:=h;exact ⟨i,List.mem_range.1 h1,h2.symm⟩
theorem zad {t:Int} {u:List Int} {d:Array Cl} (hp:PermIn 0 (clL t u).toArray.size (clL t u).toArray d) (hs:SortedIn tB 0 (clL t u).toArray.size d):d=(z0E t u).toArray:=by
 have h:=sorted_unique_holds z2b z8V (clL t u).toArray d hp hs;apply Array.toList_inj.1;rw [h];simp [z0E]
def z3y (g:List Int) (c:Cl):List Int:=g.set c.p.toNat (g.getD c.p.toNat 0+1)
theorem z8W (g:List Int) (c:Cl):(z3y g c).length=g.length:=by simp [z3y]
def z0X (g:List Int) (s:List Cl) (k:Nat):List Int:=(s.take k).foldl z3y g
theorem z3g (g:List Int) (s:List Cl):z0X g s 0=g:=rfl
theorem z3h {g:List Int} {s:List Cl} {k:Nat} (h:k < s.length):z0X g s (k+1)=z3y (z0X g s k) s[k]:=by
 unfold z0X;rw [List.take_add_one,List.foldl_append,List.getElem?_eq_getElem h];rfl
theorem z2Q (g:List Int) (s:List Cl):∀ k,(z0X g s k).length=g.length:=by
 intro k;unfold z0X
 induction s.take k generalizing g with
 | nil=>rfl
 | cons c r ih=>rw [List.foldl_cons,ih,z8W]
theorem z8X (g:List Int) (c:Cl) (i:Nat) (hi:i < g.length):(z3y g c).getD i 0=if c.p.toNat=i then g.getD i 0+1 else g.getD i 0:=by
 unfold z3y;by_cases e:c.p.toNat=i
 ·subst e;simp [List.getD,hi]
 ·simp [List.getD,List.getElem?_set_ne e,e]
theorem z2Z {g:List Int} {s:List Cl} {B:Int} (hg:∀ i,i < g.length→0≤g.getD i 0∧g.getD i 0≤B):∀ k,k≤s.length→∀ i,i < g.length→0≤(z0X g s k).getD i 0∧(z0X g s k).getD i 0≤B+k
 | 0,_,i,hi=>by have:=hg i hi;rw [z3g];omega
 | k+1,hk,i,hi=>by
  have ih:=z2Z (s:=s) hg k (by omega) i hi;rw [z3h (show k < s.length by omega),z8X _ _ _ (by rw [z2Q];exact hi)]
  split <;> omega
def z0c (t:Int) (l:List Int):List Int:=if zR t l=true∧l ≠ [] then z0X (z0D t (wts l)) (z0E t (wts l)) (z3e t (wts l)) else []
theorem z2j {t:Int} {l:List Int} (h:¬ (zR t l=true∧l ≠ [])):z0c t l=[]:=by rw [z0c,if_neg h]
theorem z2k {t:Int} {l:List Int} (h1:zR t l=true) (h2:l ≠ []):z0c t l=z0X (z0D t (wts l)) (z0E t (wts l)) (z3e t (wts l)):=by rw [z0c,if_pos ⟨h1,h2⟩]
theorem z2x {t:Int} {l:List Int} (h1:zR t l=true):(z0c t l).length=l.length:=by
 by_cases h2:l=[]
 ·subst h2;rw [z2j (by simp)]
 ·rw [z2k h1 h2,z2Q,z0A,z29]
theorem z4t {t:Int} {u:List Int} (h:zR t u=true) (hs:0 < u.sum) {i:Nat} (hi:i < u.length):0≤(z0D t u).getD i 0∧(z0D t u).getD i 0≤100000:=by
 have h1:=z2G h hs i (by omega);have h2:=z2G h hs (i+1) (by omega);rw [z1n (by rw [z0A];exact hi)] at h2;have h3:=z3d (t:=t) (u:=u) (i:=i+1) (j:=u.length) (by omega);have h4:=(z2F h hs).1;have h5:=(z1r h).1;have h6:=z3b (t:=t) (l:=u) i
 have h7:0≤(z0D t u).getD i 0:=by
  rw [z2O hi];have hw:=(z1r h).2.2;exact Int.ediv_nonneg (z2N h5 (z34 hw hi)).1 (by omega)
 exact ⟨h7,by omega⟩
theorem z2H {t:Int} {l:List Int} (i:Nat) (hi:i < (z0c t l).length):0≤(z0c t l).getD i 0∧(z0c t l).getD i 0≤100200:=by
 by_cases hc:zR t l=true∧l ≠ []
 ·obtain ⟨h1,h2⟩:=hc;have hw:=(z1r h1).2;have h0:0 < l.length:=List.length_pos_iff.2 h2;have hp:=z3R hw.2 h0;have hl:=z4Z (z2P h1) hp;rw [z2x h1] at hi;rw [z2k h1 h2];have:=z2Z (B:=100000) (s:=z0E t (wts l)) (fun j hj=>z4t (z2P h1) hp (by rw [z0A] at hj;exact hj)) (z3e t (wts l)) (by rw [z3f];omega) i (by rw [z0A,z29];exact hi);rw [z29] at hl;omega
 ·rw [z2j hc] at hi
  cases hi
def zb9 (t:Int) (u:List Int):List Int:=(clL t u).map (·.o)
def z1Y (lr:List Int) (bl:List Bool) (m:Nat) (k:Int):Prop :=
 (k=-1∧∀ i,i < m→bl.getD i false=true)∨∃ j:Nat,k=j∧j < m∧bl.getD j false=false∧∀ i,i < m→bl.getD i false=false→lr.getD i 0 < lr.getD j 0∨(lr.getD i 0=lr.getD j 0∧j≤i)
theorem z1Y.zero (lr:List Int) (bl:List Bool):z1Y lr bl 0 (-1):=.inl ⟨rfl,fun _ h=>absurd h (Nat.not_lt_zero _)⟩
theorem z1Y.got {lr:List Int} {bl:List Bool} {m:Nat} {k:Int} (h:z1Y lr bl m k) (hb:bl.getD m false=true):z1Y lr bl (m+1) k:=by
 rcases h with ⟨h1,h2⟩ | ⟨j,h1,h2,h3,h4⟩
 ·refine .inl ⟨h1,fun i hi=>?_⟩
  rcases Nat.lt_or_eq_of_le (Nat.lt_succ_iff.1 hi) with h | rfl
  ·exact h2 i h
  ·exact hb
 ·refine .inr ⟨j,h1,by omega,h3,fun i hi hn=>?_⟩
  rcases Nat.lt_or_eq_of_le (Nat.lt_succ_iff.1 hi) with h | rfl
  ·exact h4 i h hn
  ·rw [hb] at hn;cases hn
theorem z1Y.first {lr:List Int} {bl:List Bool} {m:Nat} (h:∀ i,i < m→bl.getD i false=true) (hb:bl.getD m false=false):z1Y lr bl (m+1) m:=by
 refine .inr ⟨m,rfl,Nat.lt_succ_self _,hb,fun i hi hn=>?_⟩
 rcases Nat.lt_or_eq_of_le (Nat.lt_succ_iff.1 hi) with h1 | rfl
 ·rw [h i h1] at hn;cases hn
 ·exact .inr ⟨rfl,Nat.le_refl _⟩
theorem z1Y.more {lr:List Int} {bl:List Bool} {m j:Nat} (h4:∀ i,i < m→bl.getD i false=false→lr.getD i 0 < lr.getD j 0∨(lr.getD i 0=lr.getD j 0∧j≤i)) (hb:bl.getD m false=false) (hm:lr.getD j 0 < lr.getD m 0):z1Y lr bl (m+1) m:=by
 refine .inr ⟨m,rfl,Nat.lt_succ_self _,hb,fun i hi hn=>?_⟩
 rcases Nat.lt_or_eq_of_le (Nat.lt_succ_iff.1 hi) with h1 | rfl
 ·have:=h4 i h1 hn;left;omega
 ·exact .inr ⟨rfl,Nat.le_refl _⟩
theorem z1Y.less {lr:List Int} {bl:List Bool} {m j:Nat} (hj:j < m) (h3:bl.getD j false=false) (h4:∀ i,i < m→bl.getD i false=false→lr.getD i 0 < lr.getD j 0∨(lr.getD i 0=lr.getD j 0∧j≤i)) (hm:¬ lr.getD j 0 < lr.getD m 0):z1Y lr bl (m+1) j:=by
 refine .inr ⟨j,rfl,by omega,h3,fun i hi hn=>?_⟩
 rcases Nat.lt_or_eq_of_le (Nat.lt_succ_iff.1 hi) with h1 | rfl
 ·exact h4 i h1 hn
 ·omega
theorem z8Y (t:Int) (u:List Int) (i:Nat):(cl t u i).p=i:=rfl
def zba (t:Int) (u:List Int) (bl:List Bool) (j:Nat):Prop:=∀ i,i < u.length→(bl.getD i false=true ↔ cl t u i ∈ (z0E t u).take j)
end
end Go.Proofs.Ytggmjiddadjilam
