/-
  PROVED HERE: what is as it was but the blocks from one number on up to another one. Also: 10 more texts of the same proof.
-/
import Derived.Test.YtggmjiddadjilaeGreatC12
import Derived.Laws.AppendOwn
import Derived.Laws.CopyOwn
import Derived.Deep.RegionLaw
import Derived.Deep.RegionWith
import Derived.WideShapes
import Derived.Shelf.Bits.Mul64
import Derived.Shelf.Lay
import Derived.Ground.NamesProg
import Derived.Deep.QuietTactic
import Derived.BigQuiet
import Derived.Shelf.SlSortCmp.KitK
import Derived.Sort.LotA
import Derived.Sort.WalkA
namespace Go.Proofs.YtggmjiddadjilaeGreat
open Go.RowKit
structure Out (B D:Nat) (w w':World):Prop where
 below:Below B w w'
 block:∀ k,D≤k→k < w.heap.size→w'.heap[k]?=w.heap[k]?
theorem Out.refl (B D:Nat) (w:World):Out B D w w:=⟨Below.refl _ _,fun _ _ _=>rfl⟩
theorem Out.set {B D:Nat} {a w:World} (h:Out B D a w) {p:Addr} (h1:B≤p.block) (h2:p.block < D) (v:Value):Out B D a (w.setCell p v) :=
 ⟨h.below.setCell h1 v,fun k h3 h4=>(Below.heap_setCell _ _ _ _ (by omega)).trans (h.block k h3 h4)⟩
theorem Out.drewN {B D:Nat} {a w:World} (h:Out B D a w) (n:Nat):Out B D a (w.drewN n):=⟨⟨h.below.os,h.below.tape,h.below.output,h.below.size,h.below.block⟩,h.block⟩
def IntsAt (w:World) (v:Value) (l:List Int):Prop :=
 ∃ (a:Option Addr) (cap:Nat),v=.slice a l.length cap∧l.length≤cap∧cap≤maxLen∧∀ i,i < l.length→∃ b off,a=some ⟨b,off,none⟩∧b < w.heap.size∧w.cell? ⟨b,off+i,none⟩=some (.int .i64 (l.getD i 0))
theorem IntsAt.form {w:World} {v:Value} {l:List Int} (h:IntsAt w v l):∃ a cap,v=.slice a l.length cap∧l.length≤9223372036854775807:=by
 obtain ⟨a,cap,hv,h1,h2,_⟩:=h
 unfold maxLen at h2
 exact ⟨a,cap,hv,by omega⟩
theorem IntsAt.get {w:World} {v:Value} {l:List Int} (h:IntsAt w v l) {i:Nat} (hi:i < l.length) :
  ∃ b off cap,v=.slice (some ⟨b,off,none⟩) l.length cap∧l.length≤cap∧cap≤maxLen∧b < w.heap.size∧w.cell? ⟨b,off+i,none⟩=some (.int .i64 (l.getD i 0)):=by
 obtain ⟨a,cap,hv,h1,h2,h3⟩:=h
 obtain ⟨b,off,rfl,h4,h5⟩:=h3 i hi
 exact ⟨b,off,cap,hv,h1,h2,h4,h5⟩
theorem IntsAt.kept {w w':World} {v:Value} {l:List Int} (h:IntsAt w v l) (k:Below w.heap.size w w'):IntsAt w' v l:=by
 obtain ⟨a,cap,hv,h1,h2,h3⟩:=h
 refine ⟨a,cap,hv,h1,h2,fun i hi=>?_⟩
 obtain ⟨b,off,h4,h5,h6⟩:=h3 i hi
 exact ⟨b,off,h4,Nat.lt_of_lt_of_le h5 k.size,(k.cell (p:=⟨b,off+i,none⟩) h5).trans h6⟩
def RowI (w:World) (B D:Nat) (v:Value) (l:List Int):Prop :=
 (v=.slice none 0 0∧l=[])∨∃ g cap cur,v=.slice (some ⟨g,0,none⟩) l.length cap∧B≤g∧g < D∧w.heap[g]?=some (.cells cur 3 (0,0))∧l.length≤cap∧cap≤maxLen∧cur.size=cap∧∀ i,i < l.length→cur[i]?=some (.int .i64 (l.getD i 0))
theorem RowI.of_owns {w:World} {B:Nat} {v:Value} {l:List Int} (h:w.ownsRow B 3 1 v l.length (l.map (Value.int .i64))):RowI w B w.heap.size v l:=by
 rcases h.2 with ⟨hv,h0⟩ | ⟨g,cap,cur,hv,hb,hg,h1,h2,h3,h4⟩
 ·exact .inl ⟨hv,List.eq_nil_of_length_eq_zero h0⟩
 ·refine .inr ⟨g,cap,cur,hv,hb,(bL hg),hg,h1,h2,by omega,fun i hi=>?_⟩
  have:cur.toList[i]?=(l.map (Value.int .i64))[i]?:=by rw [← h4,List.getElem?_take_of_lt (by omega)]
  rw [← Array.getElem?_toList,this]
  simp [List.getD,hi]
theorem RowI.owns {w:World} {B D:Nat} {v:Value} {l:List Int} (h:RowI w B D v l):w.ownsRow B 3 1 v l.length (l.map (Value.int .i64)):=by
 refine ⟨by simp,?_⟩
 rcases h with ⟨hv,rfl⟩ | ⟨g,cap,cur,hv,hb,hd,hg,h1,h2,h3,h4⟩
 ·exact .inl ⟨hv,rfl⟩
 ·refine .inr ⟨g,cap,cur,hv,hb,hg,h1,h2,by omega,?_⟩
  apply List.ext_getElem?
  intro i
  by_cases hi:i < l.length
  ·rw [List.getElem?_take_of_lt (by omega),Array.getElem?_toList,h4 i hi]
   simp [List.getD,hi]
  ·rw [List.getElem?_eq_none (by simp;omega),List.getElem?_eq_none (by simp;omega)]
theorem RowI.at {w:World} {B D:Nat} {v:Value} {l:List Int} (h:RowI w B D v l):IntsAt w v l:=by
 rcases h with ⟨rfl,rfl⟩ | ⟨g,cap,cur,hv,hb,hd,hg,h1,h2,h3,h4⟩
 ·exact ⟨none,0,rfl,Nat.le_refl _,Nat.zero_le _,fun i hi=>absurd hi (Nat.not_lt_zero _)⟩
 ·exact ⟨_,cap,hv,h1,h2,fun i hi=>⟨g,0,rfl,(bL hg),by rw [Nat.zero_add];exact (cellB hg).trans (h4 i hi)⟩⟩
theorem RowI.kept {w w':World} {B D:Nat} {v:Value} {l:List Int} (h:RowI w B D v l) (k:∀ j,j < w.heap.size→B≤j→j < D→w'.heap[j]?=w.heap[j]?):RowI w' B D v l:=by
 rcases h with h | ⟨g,cap,cur,hv,hb,hd,hg,r⟩
 ·exact .inl h
 ·exact .inr ⟨g,cap,cur,hv,hb,hd,(k g (bL hg) hb hd).trans hg,r⟩
theorem RowI.below {w w':World} {B D C:Nat} {v:Value} {l:List Int} (h:RowI w B D v l) (k:Below C w w') (hC:D≤C):RowI w' B D v l :=
 h.kept (fun j _ _ h2=>k.block j (Nat.lt_of_lt_of_le h2 hC))
theorem RowI.base {w:World} {B B' D D':Nat} {v:Value} {l:List Int} (h:RowI w B D v l) (hB:B'≤B) (hD:D≤D'):RowI w B' D' v l:=by
 rcases h with h | ⟨g,cap,cur,hv,hb,hd,r⟩
 ·exact .inl h
 ·exact .inr ⟨g,cap,cur,hv,Nat.le_trans hB hb,Nat.lt_of_lt_of_le hd hD,r⟩
theorem RowI.form {w:World} {B D:Nat} {v:Value} {l:List Int} (h:RowI w B D v l):∃ a cap,v=.slice a l.length cap:=by
 rcases h with ⟨rfl,rfl⟩ | ⟨g,cap,cur,hv,_⟩
 ·exact ⟨none,0,rfl⟩
 ·exact ⟨_,_,hv⟩
theorem RowI.get {w:World} {B D:Nat} {v:Value} {l:List Int} (h:RowI w B D v l) {i:Nat} (hi:i < l.length) :
  ∃ g cap,v=.slice (some ⟨g,0,none⟩) l.length cap∧B≤g∧g < D∧g < w.heap.size∧l.length≤cap∧cap≤maxLen∧w.cell? ⟨g,i,none⟩=some (.int .i64 (l.getD i 0))∧w.frozen? ⟨g,i,none⟩=false:=by
 rcases h with ⟨_,rfl⟩ | ⟨g,cap,cur,hv,hb,hd,hg,h1,h2,h3,h4⟩
 ·cases hi
 ·exact ⟨g,cap,hv,hb,hd,(bL hg),h1,h2,(cellB hg).trans (h4 i hi),freeB hg⟩
theorem RowI.set {w:World} {B D g cap n:Nat} {l:List Int} (h:RowI w B D (.slice (some ⟨g,0,none⟩) n cap) l) {i:Nat} (hi:i < l.length) (x:Int):RowI (w.setCell ⟨g,i,none⟩ (.int .i64 x)) B D (.slice (some ⟨g,0,none⟩) n cap) (l.set i x):=by
 rcases h with ⟨hv,_⟩ | ⟨g',cap',cur,hv,hb,hd,hg,h1,h2,h3,h4⟩
 ·simp at hv
 ·simp only [Value.slice.injEq,Option.some.injEq,Addr.mk.injEq,and_true] at hv
  obtain ⟨rfl,rfl,rfl⟩:=hv
  refine .inr ⟨g,cap,cur.setIfInBounds i (.int .i64 x),by simp,hb,hd,setB hg _,by simpa using h1,h2,by simpa using h3,fun j hj=>?_⟩
  rw [List.length_set] at hj
  by_cases e:i=j
  ·subst e
   simp [List.getD,hj,show i < cur.size by omega]
  ·rw [Array.getElem?_setIfInBounds_ne e,h4 j hj]
   simp [List.getD,e]
theorem RowI.out {w w':World} {B D B' D':Nat} {v:Value} {l:List Int} (h:RowI w B D v l) (k:Out B' D' w w') (hd:D≤B'∨D'≤B):RowI w' B D v l :=
 h.kept (fun j h0 h1 h2=>by rcases hd with hd | hd;exact k.below.block j (by omega);exact k.block j (by omega) h0)
def newI (n:Nat):Array Value:=madeCells (Value.int .i64 0).cells (n * 1)
theorem newI_size (n:Nat):(newI n).size=n:=by rw [newI,size_madeCells];omega
theorem infoI:(Tryz.prog.info? 3).map (fun i=>(i.zero,i.size,i.bytes))=some (some (Value.int .i64 0),1,8):=by kernel_rfl
theorem makeI (n:Nat) (hn:n≤1048576) (u:World):(Instr.makeSlice 32 (.int .i64 (n:Int)) (.int .i64 (n:Int))).run Tryz.prog u=.ok (.slice (some ⟨u.heap.size,0,none⟩) n n) (u.alloc (.cells (newI n) 3)):=by
 obtain ⟨i0,hi,hz0,hz1,hz2⟩:=info_parts infoI
 have h:=run_make (P:=Tryz.prog) u 32 3 i0 _ Tryz.underlying32 hi hz0 .i64 .i64 (n:Int) (n:Int) (by omega) (Int.le_refl _) (by rw [hz2];omega) (by omega)
 rw [hz1,Int.toNat_natCast] at h
 exact h
end Go.Proofs.YtggmjiddadjilaeGreat
namespace Go.Proofs.YtggmjiddadjilaeGreat
open Go.RowKit Go.Shelf Go.Lib
shelf_lay Lays.n212 Nm 212 at Tryz as bitsMul
def OnesTo (L:List Value) (k:Nat):Prop:=∀ i,i < k→L[i]?=some (.int .i64 1)
theorem ones_next {L:List Value} {k c:Nat} (h:OnesTo L k) (hc:k+c≤L.length):OnesTo (splice L k (List.replicate c (.int .i64 1))) (k+c):=by
 intro i hi
 unfold splice
 by_cases e:i < k
 ·rw [List.getElem?_append_left (by simp;omega),List.getElem?_take_of_lt e]
  exact h i e
 ·rw [List.getElem?_append_right (by simp;omega),List.getElem?_append_left (by simp;omega)]
  rw [List.getElem?_replicate,if_pos (by rw [List.length_take];omega)]
theorem uI:(Tryz.prog.info? 3).map (·.size)=some 1:=by kernel_rfl
set_option maxRecDepth 100000 in
set_option maxHeartbeats 2000000 in
theorem repeat_any (b n:Nat) (h1:1≤n) (hn:n≤100) (w:World) (hb:b < w.heap.size) (hx:w.cell? ⟨b,0,none⟩=some (.int .i64 1)) :
  Calls Tryz.prog 119 #[.slice (some ⟨b,0,none⟩) 1 1,.int .i64 n] w fun e w'=>∃ a cap,e=.returned (.slice a n cap)∧RowI w' w.heap.size w'.heap.size (.slice a n cap) (List.replicate n 1)∧Below w.heap.size w w':=by
 have hmul:=fun W=>Any.bits_Mul bitsMul 1 n (by omega) (by omega) W
 change ∀ W,Calls Tryz.prog 125 _ _ _ at hmul
 have em1:1 * n / 18446744073709551616=0:=by omega
 have em2:1 * n % 18446744073709551616=n:=by omega
 rw [em1,em2] at hmul
 have HM:=Hd hmul
 have hmk:=makeI n (by omega)
 have hn0:¬ (n:Int) < 0:=by omega
 clear hmul em1 em2
 go_enter Tryz.func119,Tryz.ntmps119
 go_wp2_with fail
 refine (HM.out _).mono ?_
 rintro e w1 ⟨rfl,e1⟩
 cases e1
 have hcp:=run_copy_row (P:=Tryz.prog) (w.alloc (.cells (newI n) 3)) 32 32 3 3 w.heap.size 0 n n ⟨b,0,none⟩ 1 1 (newI n) 3 [.int .i64 1] Tryz.underlying32 uI (newestB _ _) (by simp [Nat.min_def];omega)
  (fun j v hv=>by
   match j,hv with
   | 0,hv=>simp at hv;subst hv;rw [show (⟨b,0,none⟩:Addr).add 0=⟨b,0,none⟩ from rfl];exact ((k_alloc (Below.refl w.heap.size w) _).cell (p:=⟨b,0,none⟩) hb).trans hx)
  (by rw [newI_size];simp;omega) (fun v hv=>by simp at hv;subst hv;rfl)
 obtain ⟨w2,hw2⟩:∃ w2,w2=(w.alloc (.cells (newI n) 3)).setRow w.heap.size ((newI n).toList.take 0 ++ [Value.int .i64 1] ++ (newI n).toList.drop (0+[Value.int .i64 1].length)).toArray:=⟨_,rfl⟩
 rw [← hw2] at hcp
 have HG:Hid (w2.heap[w.heap.size]?=some (.cells (splice (newI n).toList 0 [.int .i64 1]).toArray 3 (0,0))):=by
  rw [hw2]
  show _=_
  rw [setRow_heap _ _ _ _ _ _ (newestB _ _)]
  simp [splice]
 have hB:Below w.heap.size w w2:=by rw [hw2];exact below_setRow (k_alloc (Below.refl _ _) _) (Nat.le_refl _) _
 clear hw2
 go_wp2_with fail
 clear hcp
 have HB:=Hd hB
 have HO:Hid (OnesTo (splice (newI n).toList 0 [.int .i64 1]) 1):=by
  have:=ones_next (L:=(newI n).toList) (k:=0) (c:=1) (fun i hi=>absurd hi (Nat.not_lt_zero _)) (by rw [Array.length_toList,newI_size];omega)
  exact this
 have hL0:(newI n).toList.length=n:=by rw [Array.length_toList,newI_size]
 have hL:(splice (newI n).toList 0 [.int .i64 1]).length=n:=by rw [length_splice _ _ _ (by rw [hL0];exact h1),hL0]
 have hz2:w.heap.size < w2.heap.size:=(bL HG.out)
 generalize splice (newI n).toList 0 [.int .i64 1]=L0 at HG HO hL
 clear hB hmk
 go_loopw [8] (fun s8 W=>∃ (k:Nat) (L:List Value),s8=.int .i64 k∧1≤k∧k≤n∧L.length=n∧Hid (W.heap[w.heap.size]?=some (.cells L.toArray 3 (0,0)))∧Hid (OnesTo L k)∧Hid (Below w.heap.size w W)∧w.heap.size < W.heap.size) (fun s8 _=>n - (intOf s8).toNat)
 case atStart=>exact ⟨1,L0,rfl,Nat.le_refl _,h1,hL,HG,HO,HB,hz2⟩
 case round =>
  clear HG HO HB hz2 hL
  obtain ⟨k,L,rfl,hk1,hk2,hL,HG,HO,HB,hz⟩:=hrel
  have HL:=Hd hL
  clear hL
  by_cases hlt:k < n
  ·have hltz:(k:Int) < (n:Int):=by omega
   obtain ⟨c,hc⟩:∃ c,c=min k (n - k):=⟨_,rfl⟩
   have hc1:1≤c:=by rw [hc,Nat.min_def];split <;> omega
   have hc2:k+c≤n:=by rw [hc,Nat.min_def];split <;> omega
   have HC:=Hd hc
   have HN:=Hd (ones_next (c:=c) HO.out (by rw [HL.out];exact hc2))
   have HL2:Hid ((splice L k (List.replicate c (.int .i64 1))).length=n):=by show _=_;rw [length_splice _ _ _ (by rw [HL.out];simp;omega)];exact HL.out
   obtain ⟨cs,hcs⟩:∃ cs:List Value,cs=List.replicate c (.int .i64 1):=⟨_,rfl⟩
   rw [← hcs] at HN HL2
   have hcl:cs.length=c:=by rw [hcs];simp
   have HCS:=Hd hcs
   have HCL:=Hd hcl
   clear hc hcs hcl
   have hcp:=run_copy_row (P:=Tryz.prog) wr.drew 32 32 3 3 w.heap.size k (n - k) (n - k) ⟨w.heap.size,0,none⟩ k n L.toArray 3 cs Tryz.underlying32 uI HG.out (by rw [HCL.out,HC.out])
    (fun j v hv=>by
     have hj:j < cs.length:=(List.getElem?_eq_some_iff.1 hv).1
     rw [HCL.out] at hj
     rw [HCS.out,List.getElem?_replicate,if_pos hj] at hv
     rw [Go.WideShapes.add_plain,Nat.zero_add]
     have e:c≤k:=by rw [HC.out];exact Nat.min_le_left _ _
     show wr.cell? _=_
     rw [cellB HG.out,List.getElem?_toArray,HO.out j (by omega)]
     exact hv)
    (by rw [HCL.out];simp;rw [HL.out];exact hc2) (fun v hv=>by rw [HCS.out] at hv;rw [(List.mem_replicate.1 hv).2];rfl)
   rw [HCL.out] at hcp
   obtain ⟨w3,hw3⟩:∃ w3,w3=wr.drew.setRow w.heap.size (L.toArray.toList.take k ++ cs ++ L.toArray.toList.drop (k+c)).toArray:=⟨_,rfl⟩
   rw [← hw3] at hcp
   have HG3:Hid (w3.heap[w.heap.size]?=some (.cells (splice L k cs).toArray 3 (0,0))):=by
    rw [hw3]
    show _=_
    rw [setRow_heap wr.drew _ _ _ _ _ HG.out]
    simp [splice,HCL.out]
   have HB3:Hid (Below w.heap.size w w3):=by rw [hw3];exact below_setRow (k_drew HB.out) (Nat.le_refl _) _
   have hz3:w.heap.size < w3.heap.size:=(bL HG3.out)
   clear hw3
   generalize splice L k cs=L3 at HG3 HN HL2
   have hk0:(0:Int)≤(k:Int):=by omega
   have enk:((n:Int) - (k:Int)).toNat=n - k:=by omega
   go_wp2_with fail
   go_region
   all_goals
    go_wp2
    go_roundw
    case rel=>exact ⟨k+c,L3,by go_num,by omega,hc2,HL2.out,HG3,HN,HB3,hz3⟩
    case measure=>simp [intOf];omega
  ·obtain rfl:k=n:=by omega
   go_wp2
   go_ret
   exact ⟨_,_,rfl,.inr ⟨w.heap.size,k,L.toArray,by simp,Nat.le_refl _,hz,HG.out,by simp,by unfold maxLen;omega,by simpa using HL.out,fun i hi=>by
    rw [List.length_replicate] at hi
    rw [List.getElem?_toArray,HO.out i hi]
    simp [List.getD,hi]⟩,HB.out⟩
end Go.Proofs.YtggmjiddadjilaeGreat
namespace Go.Proofs.YtggmjiddadjilaeGreat
open Go.RowKit
def wtB (n:Int):Bool:=decide (0≤n∧n≤100000)
def shrOkB (t:Int) (l:List Int):Bool:=wtB t && decide (l.length≤100) && l.all wtB
theorem wtB_in (n:Int):inB n 0 100000=wtB n:=rfl
theorem all_next {l:List Int} {k:Nat} (h:k < l.length) (h1:(l.take k).all wtB=true) (h2:wtB (l.getD k 0)=true):(l.take (k+1)).all wtB=true:=by
 rw [List.take_add_one,List.all_append,h1]
 simp [List.getD,h] at h2 ⊢
 exact h2
theorem not_all {l:List Int} {k:Nat} (h:k < l.length) (h2:wtB (l.getD k 0)=false):l.all wtB=false:=by
 rw [List.all_eq_false]
 refine ⟨l[k],List.getElem_mem h,?_⟩
 simp [List.getD,h] at h2
 simp [h2]
theorem wt_get {l:List Int} (h:l.all wtB=true) {i:Nat} (hi:i < l.length):0≤l.getD i 0∧l.getD i 0≤100000:=by
 have:=List.all_eq_true.1 h (l[i]) (List.getElem_mem hi)
 simp [wtB] at this
 simpa [List.getD,hi] using this
def sumTo (l:List Int) (k:Nat):Int:=(l.take k).sum
theorem sumTo_succ {l:List Int} {k:Nat} (h:k < l.length):sumTo l (k+1)=sumTo l k+l.getD k 0:=by
 rw [sumTo,List.take_add_one,List.sum_append,sumTo]
 simp [List.getD,h]
theorem sumTo_all (l:List Int):sumTo l l.length=l.sum:=by rw [sumTo,List.take_length]
theorem sumTo_bound {l:List Int} (h:l.all wtB=true):∀ k,k≤l.length→0≤sumTo l k∧sumTo l k≤k * 100000
 | 0,_=>by simp [sumTo]
 | k+1,hk=>by
  have h1:=sumTo_bound h k (by omega)
  have h2:=wt_get h (i:=k) (by omega)
  rw [sumTo_succ (by omega)]
  omega
theorem sum_bound {l:List Int} (h:l.all wtB=true):0≤l.sum∧l.sum≤l.length * 100000:=by
 have:=sumTo_bound h l.length (Nat.le_refl _)
 rwa [sumTo_all] at this
theorem shrOk_parts {t:Int} {l:List Int} (h:shrOkB t l=true):(0≤t∧t≤100000)∧l.length≤100∧l.all wtB=true:=by
 simp only [shrOkB,Bool.and_eq_true,decide_eq_true_eq] at h
 obtain ⟨⟨h1,h2⟩,h3⟩:=h
 simp only [wtB,decide_eq_true_eq] at h1
 exact ⟨h1,h2,h3⟩
set_option maxRecDepth 100000 in
set_option maxHeartbeats 1000000 in
theorem implsumOf_any (v:Value) (l:List Int) (hl:l.length≤1000) (hw:l.all wtB=true) (w:World) (h:IntsAt w v l) :
  Calls Tryz.prog 63 #[v] w fun e w'=>e=.returned (.int .i64 l.sum)∧w'=w:=by
 obtain ⟨a,cap,rfl,_⟩:=h.form
 have H:=Hd h
 have HW:=Hd (sumTo_bound hw)
 have HG:=Hd (fun i hi=>wt_get (i:=i) hw hi)
 clear h hw
 go_enter Tryz.func63,Tryz.ntmps63
 go_wp2_with fail
 go_loop [3,8] (fun s i=>∃ k:Nat,k≤l.length∧i=.int .i64 k∧s=.int .i64 (sumTo l k)) (fun _ i=>l.length - (intOf i).toNat)
 case atStart=>exact ⟨0,Nat.zero_le _,rfl,by simp [sumTo]⟩
 case round =>
  obtain ⟨k,hk,rfl,rfl⟩:=hrel
  by_cases hlt:k < l.length
  ·obtain ⟨b,off,cap',e',hc1,hc2,hbl,hx⟩:=H.out.get hlt
   simp only [Value.slice.injEq,true_and] at e'
   obtain ⟨rfl,rfl⟩:=e'
   have hb1:=HW.out k hk
   have hb2:=HG.out k hlt
   have HS:=Hd (sumTo_succ hlt)
   generalize l.getD k 0=x at hx HS hb2
   generalize sumTo l k=s at HS hb1
   unfold maxLen at hc2
   go_wp2
   go_round
   case rel=>exact ⟨k+1,by omega,by go_num,by rw [HS.out]⟩
   case measure=>simp [intOf];omega
  ·obtain rfl:k=l.length:=by omega
   have HE:=Hd (sumTo_all l)
   go_wp2
   go_ret
   exact ⟨by rw [← HE.out];rfl,rfl⟩
set_option maxRecDepth 100000 in
set_option maxHeartbeats 1000000 in
theorem implShrOk (t:Int) (v:Value) (l:List Int) (w:World) (h:IntsAt w v l) :
  Calls Tryz.prog 118 #[.int .i64 t,v] w fun e w'=>e=.returned (.bool (shrOkB t l))∧w'=w:=by
 obtain ⟨a,cap,rfl,hlen⟩:=h.form
 have H:=Hd h
 clear h
 have HC:=Hd (fun n=>within_any n 0 100000)
 by_cases ht:wtB t=true
 ·by_cases hl:(100:Int) < (l.length:Int)
  ·have HF:Hid (shrOkB t l=false):=by show _=_;simp [shrOkB];omega
   go_enter Tryz.func118,Tryz.ntmps118
   go_wp2_with fail
   refine (HC.out _ _).mono ?_
   rintro e w1 ⟨rfl,rfl⟩
   rw [wtB_in,ht]
   go_wp2
   go_ret
   exact ⟨retB HF.out.symm,rfl⟩
  ·go_enter Tryz.func118,Tryz.ntmps118
   go_wp2_with fail
   refine (HC.out _ _).mono ?_
   rintro e w1 ⟨rfl,rfl⟩
   rw [wtB_in,ht]
   go_wp2_with fail
   go_loop [17] (fun i=>∃ k:Nat,k≤l.length∧i=.int .i64 k∧Hid ((l.take k).all wtB=true)) (fun i=>l.length - (intOf i).toNat)
   case atStart=>exact ⟨0,Nat.zero_le _,rfl,by simp [Hid]⟩
   case round =>
    obtain ⟨k,hk,rfl,HA⟩:=hrel
    by_cases hlt:k < l.length
    ·obtain ⟨b,off,cap',e',hc1,hc2,hbl,hx⟩:=H.out.get hlt
     simp only [Value.slice.injEq,true_and] at e'
     obtain ⟨rfl,rfl⟩:=e'
     unfold maxLen at hc2
     by_cases hy:wtB (l.getD k 0)=true
     ·have HN:=Hd (all_next hlt HA.out hy)
      generalize l.getD k 0=x at hx hy
      go_wp2_with fail
      refine (HC.out _ _).mono ?_
      rintro e w1 ⟨rfl,rfl⟩
      rw [wtB_in,hy]
      go_wp2
      go_round
      case rel=>exact ⟨k+1,by omega,by go_num,HN⟩
      case measure=>simp [intOf];omega
     ·have hy':=eq_false_of_ne_true hy
      have HF:Hid (shrOkB t l=false):=by show _=_;simp only [shrOkB,not_all hlt hy',Bool.and_false]
      generalize l.getD k 0=x at hx hy'
      go_wp2_with fail
      refine (HC.out _ _).mono ?_
      rintro e w1 ⟨rfl,rfl⟩
      rw [wtB_in,hy']
      go_wp2
      go_ret
      exact ⟨retB HF.out.symm,rfl⟩
    ·obtain rfl:k=l.length:=by omega
     have HF:Hid (shrOkB t l=true):=by have h1:=HA.out;rw [List.take_length] at h1;show _=_;simp only [shrOkB,ht,h1,Bool.and_true,Bool.true_and,decide_eq_true_eq];omega
     go_wp2
     go_ret
     exact ⟨retB HF.out.symm,rfl⟩
 ·have ht':=eq_false_of_ne_true ht
  have HF:Hid (shrOkB t l=false):=by show _=_;simp only [shrOkB,ht',Bool.false_and]
  go_enter Tryz.func118,Tryz.ntmps118
  go_wp2_with fail
  refine (HC.out _ _).mono ?_
  rintro e w1 ⟨rfl,rfl⟩
  rw [wtB_in,ht']
  go_wp2
  go_ret
  exact ⟨retB HF.out.symm,rfl⟩
def dueV (t:Int) (l:List Int) (k:Int):Int:=if shrOkB t l && inB k 0 (l.length - 1) && l.sum != 0 then t * l.getD k.toNat 0 / l.sum else 0
theorem due_yes {t:Int} {l:List Int} {k:Int} (h1:shrOkB t l=true) (h2:inB k 0 (l.length - 1)=true) (h3:l.sum ≠ 0):dueV t l k=t * l.getD k.toNat 0 / l.sum:=by
 rw [dueV,if_pos]
 simp [h1,h2,h3]
theorem mul_small {t x:Int} (h1:0≤t∧t≤100000) (h2:0≤x∧x≤100000):0≤t * x∧t * x≤10000000000 :=
 ⟨Int.mul_nonneg h1.1 h2.1,Int.le_trans (Int.mul_le_mul h1.2 h2.2 h2.1 (by omega)) (by omega)⟩
end Go.Proofs.YtggmjiddadjilaeGreat
namespace Go.Proofs.YtggmjiddadjilaeGreat
open Go.RowKit Go.Shelf Go.Lib Go.Sort
structure Cl where
 p:Int
 w:Int
 o:Int
deriving Inhabited
def encC (x:Cl):List Value:=[.int .i64 x.p,.int .i64 x.w,.int .i64 x.o]
def cfC (x y:Cl):Int:=if y.o < x.o then -1 else if x.o < y.o then 1 else 0
theorem encC_len (x:Cl):(encC x).length=3:=rfl
theorem encC_one (x:Cl):∀ v ∈ encC x,v.oneCell'=true:=fun v hv=>by simp [encC] at hv;rcases hv with rfl | rfl | rfl <;> rfl
def wts (l:List Int):List Int:=if l.sum=0 then List.replicate l.length 1 else l
theorem wts_len (l:List Int):(wts l).length=l.length:=by unfold wts;split <;> simp
theorem sum_ones:∀ n:Nat,(List.replicate n (1:Int)).sum=n
 | 0=>rfl
 | n+1=>by rw [List.replicate_succ,List.sum_cons,sum_ones n];omega
theorem wts_wt {l:List Int} (h:l.all wtB=true):(wts l).all wtB=true:=by
 unfold wts
 split
 ·rw [List.all_eq_true];intro x hx;rw [(List.mem_replicate.1 hx).2];rfl
 ·exact h
theorem wts_pos {l:List Int} (h:l.all wtB=true) (h0:0 < l.length):0 < (wts l).sum:=by
 unfold wts
 split
 ·rw [sum_ones];omega
 ·have:=(sum_bound h).1;omega
def cl (t:Int) (u:List Int) (i:Nat):Cl:=⟨i,t * u.getD i 0 / u.sum,t * u.getD i 0 % u.sum⟩
def clL (t:Int) (u:List Int):List Cl:=(List.range u.length).map (cl t u)
theorem clL_len (t:Int) (u:List Int):(clL t u).length=u.length:=by simp [clL]
theorem clL_get {t:Int} {u:List Int} {i:Nat} (h:i < u.length):(clL t u)[i]?=some (cl t u i):=by simp [clL,h]
theorem clA_get {t:Int} {u:List Int} {i:Nat} (h:i < u.length):(clL t u).toArray[i]! = cl t u i:=by
 rw [getElem!_def,List.getElem?_toArray,clL_get h]
def newCl (n:Nat):Array Value:=madeCells (Value.agg #[.int .i64 0,.int .i64 0,.int .i64 0]).cells (n * 3)
theorem newCl_size (n:Nat):(newCl n).size=n * 3:=by rw [newCl,size_madeCells]
theorem infoCl:(Tryz.prog.info? 140).map (fun i=>(i.zero,i.size,i.bytes))=some (some (Value.agg #[.int .i64 0,.int .i64 0,.int .i64 0]),3,24):=by kernel_rfl
theorem makeCl (n:Nat) (hn:n≤1048576) (u:World):(Instr.makeSlice 137 (.int .i64 (n:Int)) (.int .i64 (n:Int))).run Tryz.prog u=.ok (.slice (some ⟨u.heap.size,0,none⟩) n n) (u.alloc (.cells (newCl n) 140)):=by
 obtain ⟨i0,hi,hz0,hz1,hz2⟩:=info_parts infoCl
 have h:=run_make (P:=Tryz.prog) u 137 140 i0 _ Tryz.underlying137 hi hz0 .i64 .i64 (n:Int) (n:Int) (by omega) (Int.le_refl _) (by rw [hz2];omega) (by omega)
 rw [hz1,Int.toNat_natCast] at h
 exact h
def ClArr (arr:Array Value) (L:Nat→Cl) (k:Nat):Prop:=∀ i,i < k→arr[i * 3]?=some (.int .i64 (L i).p)∧arr[i * 3+1]?=some (.int .i64 (L i).w)∧arr[i * 3+2]?=some (.int .i64 (L i).o)
theorem ClArr.next {arr:Array Value} {L:Nat→Cl} {k n:Nat} (h:ClArr arr L k) (hs:arr.size=n * 3) (hk:k < n) :
  ClArr (((arr.setIfInBounds (k * 3) (.int .i64 (L k).p)).setIfInBounds (k * 3+1) (.int .i64 (L k).w)).setIfInBounds (k * 3+2) (.int .i64 (L k).o)) L (k+1):=by
 have eq:∀ (A:Array Value) (i:Nat) (v:Value),i < A.size→(A.setIfInBounds i v)[i]?=some v:=fun A i v hi=>by simp [hi]
 intro i hi
 rcases Nat.lt_or_eq_of_le (Nat.lt_succ_iff.1 hi) with hlt | rfl
 ·obtain ⟨h1,h2,h3⟩:=h i hlt
  refine ⟨?_,?_,?_⟩
  ·rw [Array.getElem?_setIfInBounds_ne (by omega),Array.getElem?_setIfInBounds_ne (by omega),Array.getElem?_setIfInBounds_ne (by omega)];exact h1
  ·rw [Array.getElem?_setIfInBounds_ne (by omega),Array.getElem?_setIfInBounds_ne (by omega),Array.getElem?_setIfInBounds_ne (by omega)];exact h2
  ·rw [Array.getElem?_setIfInBounds_ne (by omega),Array.getElem?_setIfInBounds_ne (by omega),Array.getElem?_setIfInBounds_ne (by omega)];exact h3
 ·refine ⟨?_,?_,?_⟩
  ·rw [Array.getElem?_setIfInBounds_ne (by omega),Array.getElem?_setIfInBounds_ne (by omega)];exact eq _ _ _ (by omega)
  ·rw [Array.getElem?_setIfInBounds_ne (by omega)];exact eq _ _ _ (by rw [Array.size_setIfInBounds];omega)
  ·exact eq _ _ _ (by rw [Array.size_setIfInBounds,Array.size_setIfInBounds];omega)
theorem holds_of_arr {w:World} {g n:Nat} {arr:Array Value} {T:TypeId} {L:Nat→Cl} {d:Array Cl} (hg:w.heap[g]?=some (.cells arr T)) (ha:ClArr arr L n) (hd:d.size=n) (hL:∀ i,i < n→d[i]! = L i):HoldsK encC 3 w g 0 d:=by
 intro j hj
 rw [size_flatK,hd] at hj
 have hq:j / 3 < n:=by omega
 obtain ⟨h1,h2,h3⟩:=ha (j / 3) hq
 refine ⟨?_,freeB hg⟩
 rw [Nat.zero_add,cellB hg,get_flatK _ _ _ _ (by rw [hd];exact hj),hL _ hq]
 show arr[j]?=some ((encC (L (j / 3)))[j % 3]!)
 rcases (by omega:j % 3=0∨j % 3=1∨j % 3=2) with e | e | e
 ·rw [e];rw [show j=j / 3 * 3 by omega];rw [Nat.mul_div_cancel _ (by omega)];exact h1
 ·rw [e,show arr[j]?=arr[j / 3 * 3+1]? from by congr 1;omega];exact h2
 ·rw [e,show arr[j]?=arr[j / 3 * 3+2]? from by congr 1;omega];exact h3
theorem row_claims {w:World} {g:Nat} {arr:Array Value} {t:Int} {u:List Int} (hg:w.heap[g]?=some (.cells arr 140)) (ha:ClArr arr (cl t u) u.length):RowK encC 3 w g 0 (clL t u).toArray :=
 ⟨encC_len,encC_one,holds_of_arr hg ha (by simp [clL_len]) (fun _ hi=>clA_get hi),(bL hg)⟩
theorem rem_small {a s:Int} (hs:0 < s):0≤a % s∧a % s < s:=⟨Int.emod_nonneg _ (by omega),Int.emod_lt_of_pos _ hs⟩
set_option maxRecDepth 100000 in
set_option maxHeartbeats 4000000 in
theorem claimsOf_any (t:Int) (v:Value) (l:List Int) (ht:0≤t∧t≤100000) (h0:0 < l.length) (hl:l.length≤100) (hw:l.all wtB=true) (w:World) (h:IntsAt w v l) :
  Calls Tryz.prog 108 #[.int .i64 t,v] w fun e w'=>∃ g,e=.returned (.slice (some ⟨g,0,none⟩) l.length l.length)∧w.heap.size≤g∧RowK encC 3 w' g 0 (clL t (wts l)).toArray∧Below w.heap.size w w':=by
 obtain ⟨a,cap,rfl,_⟩:=h.form
 have H:=Hd h
 clear h
 have HS:=Hd (fun W=>implsumOf_any (.slice a l.length cap) l (by omega) hw W)
 have hmk:=makeCl l.length (by omega)
 have hpos:=wts_pos hw h0
 have hsb:=sum_bound (wts_wt hw)
 rw [wts_len] at hsb
 have HWT:=Hd (wts_wt hw)
 have HLN:=Hd (wts_len l)
 by_cases hz:l.sum=0
 ·have hwt:wts l=List.replicate l.length 1:=by rw [wts,if_pos hz]
  have hsum:(wts l).sum=l.length:=by rw [hwt,sum_ones]
  have HZ:=Hd hz
  have HSM:=Hd hsum
  have HU:=Hd hwt
  rw [hz] at HS
  rw [hsum] at hpos hsb
  generalize wts l=u at HWT HLN HSM HU ⊢
  clear hz hsum hwt hw
  go_enter Tryz.func108,Tryz.ntmps108
  go_wp2_with fail
  refine (HS.out _ H.out).mono ?_
  rintro e w1 ⟨rfl,e1⟩
  cases e1
  go_wp2_with fail
  refine (repeat_any w.heap.size l.length h0 hl _ (by simp) (by simp)).mono ?_
  rintro e w2 ⟨a2,cap2,rfl,hr2,hb2⟩
  have R2:Hid (IntsAt w2 (.slice a2 l.length cap2) u):=by
   have:=hr2.at
   rw [← HU.out] at this
   exact this
  have K2:=Hd (k_trans (k_alloc (Below.refl w.heap.size w) (.cells #[.int .i64 1] 3)) hb2)
  clear hr2 hb2
  go_wp2_with fail
  clear hmk
  have hw2:=K2.out.size
  go_loopw [24] (fun i W=>∃ (k:Nat) (arr:Array Value),k≤l.length∧i=.int .i64 k∧Hid (W.heap[w2.heap.size]?=some (.cells arr 140))∧arr.size=l.length * 3∧Hid (ClArr arr (cl t u) k)∧Hid (Below w2.heap.size w2 W)) (fun i _=>l.length - (intOf i).toNat)
  case atStart=>exact ⟨0,newCl l.length,Nat.zero_le _,rfl,newestB _ _,newCl_size _,fun i hi=>absurd hi (Nat.not_lt_zero _),k_alloc (Below.refl _ _) _⟩
  case round =>
   obtain ⟨k,arr,hk,rfl,HBk,hsz,HA,HB⟩:=hrel
   by_cases hlt:k < l.length
   ·have hku:k < u.length:=by rw [HLN.out];exact hlt
    obtain ⟨b,off,cap',e',hc1,hc2,hbl,hx⟩:=(R2.out.kept HB.out).get hku
    rw [HLN.out] at e' hc1
    simp only [Value.slice.injEq,true_and] at e'
    obtain ⟨rfl,rfl⟩:=e'
    have hx0:=wt_get HWT.out hku
    have hm:=mul_small ht hx0
    have HN:=Hd (HA.out.next (n:=l.length) hsz hlt)
    have ecl:cl t u k=⟨k,t * u.getD k 0 / l.length,t * u.getD k 0 % l.length⟩:=by rw [cl,HSM.out]
    rw [ecl] at HN
    generalize u.getD k 0=x at hx hx0 hm HN
    clear ecl hku
    unfold maxLen at hc2
    obtain ⟨y0,q0⟩:=someB (p:=k * 3) HBk.out (by omega)
    obtain ⟨y1,q1⟩:=someB (p:=k * 3+1) HBk.out (by omega)
    obtain ⟨y2,q2⟩:=someB (p:=k * 3+2) HBk.out (by omega)
    have fz:∀ p,wr.frozen? ⟨w2.heap.size,p,none⟩=false:=fun p=>freeB HBk.out
    have hdv:=Int.ediv_nonneg hm.1 (show (0:Int)≤(l.length:Int) by omega)
    have hdw:=Int.le_trans (Int.ediv_le_self (l.length:Int) hm.1) hm.2
    have hrm:=rem_small (a:=t * x) (s:=(l.length:Int)) (by omega)
    go_wp2_with fail
    go_region
    all_goals
     go_wp2
     go_roundw
     case rel=>exact ⟨k+1,_,by omega,by go_num,setB (setB (setB HBk.out _) _) _,by rw [Array.size_setIfInBounds,Array.size_setIfInBounds,Array.size_setIfInBounds];exact hsz,HN,k_set (k_set (k_set (k_drew HB.out) (Nat.le_refl _) _) (Nat.le_refl _) _) (Nat.le_refl _) _⟩
     case measure=>simp [intOf];omega
   ·obtain rfl:k=l.length:=by omega
    go_wp2
    go_ret
    exact ⟨_,rfl,hw2,row_claims HBk.out (by rw [HLN.out];exact HA.out),k_trans K2.out HB.out⟩
 ·have hwt:wts l=l:=by rw [wts,if_neg hz]
  rw [hwt] at hpos hsb ⊢
  have hzb:(l.sum == 0)=false:=by simpa using hz
  have HG:=Hd (fun i hi=>wt_get (i:=i) hw hi)
  have HSM:Hid (∀ k,cl t l k=⟨k,t * l.getD k 0 / l.sum,t * l.getD k 0 % l.sum⟩):=fun _=>rfl
  generalize l.sum=s at HS HSM hpos hsb hzb hz
  clear HWT HLN hwt hw
  go_enter Tryz.func108,Tryz.ntmps108
  go_wp2_with fail
  refine (HS.out _ H.out).mono ?_
  rintro e w1 ⟨rfl,e1⟩
  cases e1
  go_wp2_with fail
  clear hmk
  go_loopw [24] (fun i W=>∃ (k:Nat) (arr:Array Value),k≤l.length∧i=.int .i64 k∧Hid (W.heap[w.heap.size]?=some (.cells arr 140))∧arr.size=l.length * 3∧Hid (ClArr arr (cl t l) k)∧Hid (Below w.heap.size w W)) (fun i _=>l.length - (intOf i).toNat)
  case atStart=>exact ⟨0,newCl l.length,Nat.zero_le _,rfl,newestB _ _,newCl_size _,fun i hi=>absurd hi (Nat.not_lt_zero _),k_alloc (Below.refl _ _) _⟩
  case round =>
   obtain ⟨k,arr,hk,rfl,HBk,hsz,HA,HB⟩:=hrel
   by_cases hlt:k < l.length
   ·obtain ⟨b,off,cap',e',hc1,hc2,hbl,hx⟩:=(H.out.kept HB.out).get hlt
    simp only [Value.slice.injEq,true_and] at e'
    obtain ⟨rfl,rfl⟩:=e'
    have hx0:=HG.out k hlt
    have hm:=mul_small ht hx0
    have HN:=Hd (HA.out.next (n:=l.length) hsz hlt)
    rw [HSM.out k] at HN
    generalize l.getD k 0=x at hx hx0 hm HN
    unfold maxLen at hc2
    obtain ⟨y0,q0⟩:=someB (p:=k * 3) HBk.out (by omega)
    obtain ⟨y1,q1⟩:=someB (p:=k * 3+1) HBk.out (by omega)
    obtain ⟨y2,q2⟩:=someB (p:=k * 3+2) HBk.out (by omega)
    have fz:∀ p,wr.frozen? ⟨w.heap.size,p,none⟩=false:=fun p=>freeB HBk.out
    have hdv:=Int.ediv_nonneg hm.1 (show (0:Int)≤s by omega)
    have hdw:=Int.le_trans (Int.ediv_le_self s hm.1) hm.2
    have hrm:=rem_small (a:=t * x) (s:=s) (by omega)
    go_wp2_with fail
    go_region
    all_goals
     go_wp2
     go_roundw
     case rel=>exact ⟨k+1,_,by omega,by go_num,setB (setB (setB HBk.out _) _) _,by rw [Array.size_setIfInBounds,Array.size_setIfInBounds,Array.size_setIfInBounds];exact hsz,HN,k_set (k_set (k_set (k_drew HB.out) (Nat.le_refl _) _) (Nat.le_refl _) _) (Nat.le_refl _) _⟩
     case measure=>simp [intOf];omega
   ·obtain rfl:k=l.length:=by omega
    go_wp2
    go_ret
    exact ⟨_,rfl,Nat.le_refl _,row_claims HBk.out HA.out,HB.out⟩
end Go.Proofs.YtggmjiddadjilaeGreat
namespace Go.Proofs.YtggmjiddadjilaeGreat
open Go.RowKit
def dueTo (t:Int) (l:List Int):Nat→Int
 | 0=>0
 | k+1=>dueTo t l k+dueV t l k
theorem inB_nat {l:List Int} {k:Nat} (h:k < l.length):inB (k:Int) 0 ((l.length:Int) - 1)=true:=inB_true (by omega) (by omega)
theorem div_both {a s:Int} (hs:0 < s):s * (a / s)≤a∧a≤s * (a / s)+(s - 1):=by
 have h1:=Int.mul_ediv_add_emod a s
 have h2:=Int.emod_nonneg a (show s ≠ 0 by omega)
 have h3:=Int.emod_lt_of_pos a hs
 constructor <;> omega
theorem dueTo_both {t:Int} {l:List Int} (h:shrOkB t l=true) (hs:0 < l.sum):∀ k,k≤l.length→l.sum * dueTo t l k≤t * sumTo l k∧t * sumTo l k≤l.sum * dueTo t l k+k * (l.sum - 1)
 | 0,_=>by simp [dueTo,sumTo]
 | k+1,hk=>by
  obtain ⟨h1,h2⟩:=dueTo_both h hs k (by omega)
  have hlt:k < l.length:=by omega
  obtain ⟨h3,h4⟩:=div_both (a:=t * l.getD k 0) hs
  rw [dueTo,due_yes h (inB_nat hlt) (by omega),sumTo_succ hlt,Int.toNat_natCast,Int.mul_add,Int.mul_add]
  have e:((k+1:Nat):Int) * (l.sum - 1)=(k:Int) * (l.sum - 1)+(l.sum - 1):=by rw [Int.natCast_add,Int.add_mul];simp
  rw [e]
  constructor <;> omega
theorem dueTo_bounds {t:Int} {l:List Int} (h:shrOkB t l=true) (hs:0 < l.sum):dueTo t l l.length≤t∧t - l.length < dueTo t l l.length:=by
 obtain ⟨h1,h2⟩:=dueTo_both h hs l.length (Nat.le_refl _)
 rw [sumTo_all] at h1 h2
 have hl:0 < l.length:=by
  rcases Nat.eq_zero_or_pos l.length with h0 | h0
  ·rw [List.eq_nil_of_length_eq_zero h0] at hs;simp at hs
  ·exact h0
 generalize l.sum=s at *
 generalize dueTo t l l.length=d at *
 generalize l.length=n at *
 rw [Int.mul_comm t s] at h1 h2
 constructor
 ·exact Int.le_of_mul_le_mul_left h1 hs
 ·apply Int.lt_of_mul_lt_mul_left (a:=s) _ (by omega)
  rw [Int.mul_sub]
  have e:(n:Int) * (s - 1)=s * n - n:=by rw [Int.mul_sub,Int.mul_one,Int.mul_comm]
  omega
theorem dueV_bounds {t:Int} {l:List Int} (k:Int):0≤dueV t l k∧dueV t l k≤10000000000:=by
 by_cases h:(shrOkB t l && inB k 0 (l.length - 1) && l.sum != 0)=true
 ·rw [dueV,if_pos h]
  simp only [Bool.and_eq_true,bne_iff_ne] at h
  obtain ⟨⟨h1,h2⟩,h3⟩:=h
  obtain ⟨ht,hl,hw⟩:=shrOk_parts h1
  have hk:0≤k∧k≤(l.length:Int) - 1:=by simpa [inB] using h2
  have hm:=mul_small ht (wt_get hw (i:=k.toNat) (by omega))
  have hs:=(sum_bound hw).1
  exact ⟨Int.ediv_nonneg hm.1 hs,Int.le_trans (Int.ediv_le_self _ hm.1) hm.2⟩
 ·rw [dueV,if_neg h]
  omega
theorem dueTo_wide {t:Int} {l:List Int}:∀ k:Nat,0≤dueTo t l k∧dueTo t l k≤k * 10000000000
 | 0=>by simp [dueTo]
 | k+1=>by
  have h1:=dueTo_wide (t:=t) (l:=l) k
  have h2:=dueV_bounds (t:=t) (l:=l) k
  rw [dueTo]
  omega
end Go.Proofs.YtggmjiddadjilaeGreat
namespace Go.Proofs.YtggmjiddadjilaeGreat
open Go.Sort
theorem ltC_iff (x y:Cl):ltOf cfC x y=decide (y.o < x.o):=by
 unfold ltOf cfC
 split
 ·simp;omega
 ·split <;> (simp;omega)
def tB (x y:Cl):Bool:=decide (y.o < x.o∨(x.o=y.o∧(x.p < y.p∨(x.p=y.p∧x.w < y.w))))
theorem tB_iff (x y:Cl):tB x y=true ↔ (y.o < x.o∨(x.o=y.o∧(x.p < y.p∨(x.p=y.p∧x.w < y.w)))):=by simp [tB]
theorem tB_not (x y:Cl):tB x y=false ↔ ¬ (y.o < x.o∨(x.o=y.o∧(x.p < y.p∨(x.p=y.p∧x.w < y.w)))):=by rw [← tB_iff];simp
theorem swoT:SWO tB where
 irrefl:=fun x=>by rw [tB_not];omega
 trans:=fun x y z h1 h2=>by rw [tB_iff] at *;omega
 ntrans:=fun x y z h1 h2=>by rw [tB_not] at *;omega
theorem tB_total (x y:Cl) (h1:tB x y=false) (h2:tB y x=false):x=y:=by
 rw [tB_not] at h1 h2
 obtain ⟨a,b,c⟩:=x
 obtain ⟨a',b',c'⟩:=y
 simp only at h1 h2
 obtain rfl:a=a':=by omega
 obtain rfl:b=b':=by omega
 obtain rfl:c=c':=by omega
 rfl
theorem lt_tB {x y:Cl} (h:y.p < x.p):ltOf cfC x y=tB x y:=by
 rw [ltC_iff,Bool.eq_iff_iff,tB_iff,decide_eq_true_eq];omega
theorem tB_asymm {x y:Cl} (h:tB x y=true):tB y x=false:=swoT.asymmA h
theorem inner_perm (lt:Cl→Cl→Bool) (a b:Nat):∀ (j:Nat) (d:Array Cl),a≤j→j < b→b≤d.size→PermIn a b d (insInner lt a j d)
 | 0,d,_,_,_=>by unfold insInner;exact permIn_refl d a b
 | j+1,d,haj,hjb,hb=>by
  unfold insInner
  split
  ·rename_i hc
   simp only [Bool.and_eq_true,decide_eq_true_eq] at hc
   exact permIn_trans _ _ _ a b (swp_permIn d a b (j+1) j haj hjb (by omega) (by omega) hb) (inner_perm lt a b j _ (by omega) (by omega) (by rw [size_swp];exact hb))
  ·exact permIn_refl d a b
theorem inner_eq (a:Nat):∀ (j:Nat) (d:Array Cl),j < d.size→(∀ q,a≤q→q < j→d[q]!.p < d[j]!.p)→insInner (ltOf cfC) a j d=insInner tB a j d
 | 0,d,_,_=>by unfold insInner;rfl
 | j+1,d,hj,h=>by
  unfold insInner
  by_cases ha:j+1 > a
  ·have e:ltOf cfC d[j+1]! d[j]! = tB d[j+1]! d[j]! := lt_tB (h j (by omega) (by omega))
   rw [e]
   cases hc:tB d[j+1]! d[j]!
   ·simp
   ·simp only [ha,decide_true,Bool.and_self,if_true]
    refine inner_eq a j _ (by rw [size_swp];omega) (fun q h1 h2=>?_)
    rw [swp_right _ _ _ (by omega),swp_other _ _ _ _ (by omega) (by omega)]
    exact h q h1 (by omega)
  ·simp [ha]
theorem outer_eq (a b:Nat):∀ (n i:Nat) (d:Array Cl),b - i=n→a < i→b≤d.size→(∀ x y,a≤x→x < y→i≤y→y < b→d[x]!.p < d[y]!.p)→insOuter (ltOf cfC) a b i d=insOuter tB a b i d
 | 0,i,d,hn,_,_,_=>by rw [insOuter_stop _ _ _ _ _ (by omega),insOuter_stop _ _ _ _ _ (by omega)]
 | n+1,i,d,hn,hai,hb,h=>by
  have hlt:i < b:=by omega
  rw [insOuter_go _ _ _ _ _ hlt,insOuter_go _ _ _ _ _ hlt,inner_eq a i d (by omega) (fun q h1 h2=>h q i h1 h2 (Nat.le_refl _) hlt)]
  have hP:=inner_perm tB a (i+1) i d (by omega) (by omega) (by omega)
  refine outer_eq a b n (i+1) _ (by omega) (by omega) (by rw [hP.1];exact hb) (fun x y h1 h2 h3 h4=>?_)
  rw [hP.2.1 y (Or.inr h3)]
  by_cases hx:x < i+1
  ·exact permIn_all d _ a (i+1) (fun z=>z.p < d[y]!.p) (by omega) hP (fun q h5 h6=>h q y h5 (by omega) (by omega) h4) x h1 hx
  ·rw [hP.2.1 x (Or.inr (by omega))]
   exact h x y h1 h2 (by omega) h4
def Asc (a b:Nat) (d:Array Cl):Prop:=∀ x y,a≤x→x < y→y < b→d[x]!.p < d[y]!.p
theorem ins_sorts (d:Array Cl) (a b:Nat) (hab:a≤b) (hb:b≤d.size) (h:Asc a b d):PermIn a b d (Sort.insertionSort (ltOf cfC) d a b)∧SortedIn tB a b (Sort.insertionSort (ltOf cfC) d a b):=by
 have e:Sort.insertionSort (ltOf cfC) d a b=Sort.insertionSort tB d a b:=by
  unfold Sort.insertionSort
  exact outer_eq a b (b - (a+1)) (a+1) d rfl (by omega) hb (fun x y h1 h2 _ h4=>h x y h1 h2 h4)
 rw [e]
 exact insertionSort_holds swoT d a b hab hb
end Go.Proofs.YtggmjiddadjilaeGreat
