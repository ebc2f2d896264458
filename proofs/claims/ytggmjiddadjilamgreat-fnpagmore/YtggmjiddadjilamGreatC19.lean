/-
  PROVED HERE: what slices of rows on pages are in memory, for the other texts of this claim; they stay where what was in memory stays. Also: 16 more texts of the same proof.
-/
import Derived.Test.YtggmjiddadjilamGreatC14
import Derived.Deep.DeepCutAuto
set_option maxRecDepth 1000000
set_option maxHeartbeats 40000000
namespace Go.Proofs.YtggmjiddadjilamGreat
open Go.RowKit
structure PgS where
 r:Int
 f:Int
 t:Int
def dP:PgS:=⟨0,0,0⟩
def PIs (w:World) (b o:Nat) (x:PgS):Prop:=w.cell? ⟨b,o,none⟩=some (.int .i64 x.r)∧w.cell? ⟨b,o+1,none⟩=some (.int .i64 x.f)∧w.cell? ⟨b,o+2,none⟩=some (.int .i64 x.t)
def z2I (w:World) (z:Nat) (v:Value) (ps:List PgS):Prop:=At w z v ps.length 3 (fun i b o=>PIs w b o (ps.getD i dP))
def z1T (w:World) (z:Nat) (v:Value) (pss:List (List PgS)):Prop:=At w z v pss.length 1 (fun i b o=>∃ u,w.cell? ⟨b,o,none⟩=some u∧z2I w z u (pss.getD i []))
theorem PIs.since {w w':World} {z b o:Nat} {x:PgS} (h:PIs w b o x) (hb:b < w.heap.size) (hz:z≤b) (k:z0A z w w'):PIs w' b o x:=by
 unfold PIs at h ⊢;simp only [k.cell hz hb];exact h
theorem z2I.since {w w':World} {z:Nat} {v:Value} {ps:List PgS} (h:z2I w z v ps) (k:z0A z w w'):z2I w' z v ps :=
 At.mono h k.size (Nat.le_refl _) (fun _ _ _ _ hb hz he=>he.since hb hz k)
theorem z1T.since {w w':World} {z:Nat} {v:Value} {pss:List (List PgS)} (h:z1T w z v pss) (k:z0A z w w'):z1T w' z v pss :=
 At.mono h k.size (Nat.le_refl _) (fun _ _ _ _ hb hz ⟨u,h1,h2⟩=>⟨u,(k.cell hz hb _).trans h1,h2.since k⟩)
theorem z2I.kept {w w':World} {z:Nat} {v:Value} {ps:List PgS} (h:z2I w z v ps) (k:Below w.heap.size w w'):z2I w' z v ps:=h.since (.of_below k)
theorem z1T.kept {w w':World} {z:Nat} {v:Value} {pss:List (List PgS)} (h:z1T w z v pss) (k:Below w.heap.size w w'):z1T w' z v pss:=h.since (.of_below k)
theorem z2I.base {w:World} {z z':Nat} {v:Value} {ps:List PgS} (h:z2I w z v ps) (hz:z'≤z):z2I w z' v ps:=At.mono h (Nat.le_refl _) hz (fun _ _ _ _ _ _ he=>he)
theorem z1T.base {w:World} {z z':Nat} {v:Value} {pss:List (List PgS)} (h:z1T w z v pss) (hz:z'≤z):z1T w z' v pss:=At.mono h (Nat.le_refl _) hz (fun _ _ _ _ _ _ ⟨u,h1,h2⟩=>⟨u,h1,h2.base hz⟩)
theorem z1T.get {w:World} {z:Nat} {v:Value} {pss:List (List PgS)} (h:z1T w z v pss) {i:Nat} (hi:i < pss.length):∃ b off cap u,v=.slice (some ⟨b,off,none⟩) pss.length cap∧pss.length≤cap∧cap≤maxLen∧b < w.heap.size∧w.cell? ⟨b,off+i,none⟩=some u∧z2I w z u (pss.getD i []):=by
 obtain ⟨b,off,cap,e,h1,h2,h3,u,h4,h5⟩:=At.get h hi;rw [Nat.mul_one] at h4;exact ⟨b,off,cap,u,e,h1,h2,h3,h4,h5⟩
def pTo (pss:List (List PgS)) (k:Nat):Nat:=((pss.take k).map List.length).sum
def zkG (pss:List (List PgS)):Nat:=pss.length+pTo pss pss.length
structure Out (B D:Nat) (w w':World):Prop where
 below:Below B w w'
 block:∀ k,D≤k→k < w.heap.size→w'.heap[k]?=w.heap[k]?
theorem Out.refl (B D:Nat) (w:World):Out B D w w:=⟨Below.refl _ _,fun _ _ _=>rfl⟩
theorem Out.set {B D:Nat} {a w:World} (h:Out B D a w) {p:Addr} (h1:B≤p.block) (h2:p.block < D) (v:Value):Out B D a (w.setCell p v) :=
 ⟨h.below.setCell h1 v,fun k h3 h4=>(Below.heap_setCell _ _ _ _ (by omega)).trans (h.block k h3 h4)⟩
theorem Out.drewN {B D:Nat} {a w:World} (h:Out B D a w) (n:Nat):Out B D a (w.drewN n):=⟨⟨h.below.os,h.below.tape,h.below.output,h.below.size,h.below.block⟩,h.block⟩
def zu (w:World) (v:Value) (l:List Int):Prop :=
 ∃ (a:Option Addr) (cap:Nat),v=.slice a l.length cap∧l.length≤cap∧cap≤maxLen∧∀ i,i < l.length→∃ b off,a=some ⟨b,off,none⟩∧b < w.heap.size∧w.cell? ⟨b,off+i,none⟩=some (.int .i64 (l.getD i 0))
theorem zu.form {w:World} {v:Value} {l:List Int} (h:zu w v l):∃ a cap,v=.slice a l.length cap∧l.length≤9223372036854775807:=by
 obtain ⟨a,cap,hv,h1,h2,_⟩:=h;unfold maxLen at h2;exact ⟨a,cap,hv,by omega⟩
theorem zu.get {w:World} {v:Value} {l:List Int} (h:zu w v l) {i:Nat} (hi:i < l.length) :
  ∃ b off cap,v=.slice (some ⟨b,off,none⟩) l.length cap∧l.length≤cap∧cap≤maxLen∧b < w.heap.size∧w.cell? ⟨b,off+i,none⟩=some (.int .i64 (l.getD i 0)):=by
 obtain ⟨a,cap,hv,h1,h2,h3⟩:=h;obtain ⟨b,off,rfl,h4,h5⟩:=h3 i hi;exact ⟨b,off,cap,hv,h1,h2,h4,h5⟩
theorem zu.kept {w w':World} {v:Value} {l:List Int} (h:zu w v l) (k:Below w.heap.size w w'):zu w' v l:=by
 obtain ⟨a,cap,hv,h1,h2,h3⟩:=h;refine ⟨a,cap,hv,h1,h2,fun i hi=>?_⟩;obtain ⟨b,off,h4,h5,h6⟩:=h3 i hi;exact ⟨b,off,h4,Nat.lt_of_lt_of_le h5 k.size,(k.cell (p:=⟨b,off+i,none⟩) h5).trans h6⟩
def zq (w:World) (B D:Nat) (v:Value) (l:List Int):Prop :=
 (v=.slice none 0 0∧l=[])∨∃ g cap cur,v=.slice (some ⟨g,0,none⟩) l.length cap∧B≤g∧g < D∧w.heap[g]?=some (.cells cur 3 (0,0))∧l.length≤cap∧cap≤maxLen∧cur.size=cap∧∀ i,i < l.length→cur[i]?=some (.int .i64 (l.getD i 0))
theorem zq.of_owns {w:World} {B:Nat} {v:Value} {l:List Int} (h:w.ownsRow B 3 1 v l.length (l.map (Value.int .i64))):zq w B w.heap.size v l:=by
 rcases h.2 with ⟨hv,h0⟩ | ⟨g,cap,cur,hv,hb,hg,h1,h2,h3,h4⟩
 ·exact .inl ⟨hv,List.eq_nil_of_length_eq_zero h0⟩
 ·refine .inr ⟨g,cap,cur,hv,hb,(bL hg),hg,h1,h2,by omega,fun i hi=>?_⟩;have:cur.toList[i]?=(l.map (Value.int .i64))[i]?:=(by rw [← h4,List.getElem?_take_of_lt (by omega)]);rw [← Array.getElem?_toList,this];simp [List.getD,hi]
theorem zq.owns {w:World} {B D:Nat} {v:Value} {l:List Int} (h:zq w B D v l):w.ownsRow B 3 1 v l.length (l.map (Value.int .i64)):=by
 refine ⟨by simp,?_⟩
 rcases h with ⟨hv,rfl⟩ | ⟨g,cap,cur,hv,hb,hd,hg,h1,h2,h3,h4⟩
 ·exact .inl ⟨hv,rfl⟩
 ·refine .inr ⟨g,cap,cur,hv,hb,hg,h1,h2,by omega,?_⟩;apply List.ext_getElem?;intro i;by_cases hi:i < l.length
  ·rw [List.getElem?_take_of_lt (by omega),Array.getElem?_toList,h4 i hi];simp [List.getD,hi]
  ·rw [List.getElem?_eq_none (by simp;omega),List.getElem?_eq_none (by simp;omega)]
theorem zq.at {w:World} {B D:Nat} {v:Value} {l:List Int} (h:zq w B D v l):zu w v l:=by
 rcases h with ⟨rfl,rfl⟩ | ⟨g,cap,cur,hv,hb,hd,hg,h1,h2,h3,h4⟩
 ·exact ⟨none,0,rfl,Nat.le_refl _,Nat.zero_le _,fun i hi=>absurd hi (Nat.not_lt_zero _)⟩
 ·exact ⟨_,cap,hv,h1,h2,fun i hi=>⟨g,0,rfl,(bL hg),by rw [Nat.zero_add];exact (zf hg).trans (h4 i hi)⟩⟩
theorem zq.kept {w w':World} {B D:Nat} {v:Value} {l:List Int} (h:zq w B D v l) (k:∀ j,j < w.heap.size→B≤j→j < D→w'.heap[j]?=w.heap[j]?):zq w' B D v l:=by
 rcases h with h | ⟨g,cap,cur,hv,hb,hd,hg,r⟩
 ·exact .inl h
 ·exact .inr ⟨g,cap,cur,hv,hb,hd,(k g (bL hg) hb hd).trans hg,r⟩
theorem zq.below {w w':World} {B D C:Nat} {v:Value} {l:List Int} (h:zq w B D v l) (k:Below C w w') (hC:D≤C):zq w' B D v l :=
 h.kept (fun j _ _ h2=>k.block j (Nat.lt_of_lt_of_le h2 hC))
theorem zq.base {w:World} {B B' D D':Nat} {v:Value} {l:List Int} (h:zq w B D v l) (hB:B'≤B) (hD:D≤D'):zq w B' D' v l:=by
 rcases h with h | ⟨g,cap,cur,hv,hb,hd,r⟩
 ·exact .inl h
 ·exact .inr ⟨g,cap,cur,hv,Nat.le_trans hB hb,Nat.lt_of_lt_of_le hd hD,r⟩
theorem zq.form {w:World} {B D:Nat} {v:Value} {l:List Int} (h:zq w B D v l):∃ a cap,v=.slice a l.length cap:=by
 rcases h with ⟨rfl,rfl⟩ | ⟨g,cap,cur,hv,_⟩
 ·exact ⟨none,0,rfl⟩
 ·exact ⟨_,_,hv⟩
theorem zq.get {w:World} {B D:Nat} {v:Value} {l:List Int} (h:zq w B D v l) {i:Nat} (hi:i < l.length) :
  ∃ g cap,v=.slice (some ⟨g,0,none⟩) l.length cap∧B≤g∧g < D∧g < w.heap.size∧l.length≤cap∧cap≤maxLen∧w.cell? ⟨g,i,none⟩=some (.int .i64 (l.getD i 0))∧w.frozen? ⟨g,i,none⟩=false:=by
 rcases h with ⟨_,rfl⟩ | ⟨g,cap,cur,hv,hb,hd,hg,h1,h2,h3,h4⟩
 ·cases hi
 ·exact ⟨g,cap,hv,hb,hd,(bL hg),h1,h2,(zf hg).trans (h4 i hi),zM hg⟩
theorem zq.set {w:World} {B D g cap n:Nat} {l:List Int} (h:zq w B D (.slice (some ⟨g,0,none⟩) n cap) l) {i:Nat} (hi:i < l.length) (x:Int):zq (w.setCell ⟨g,i,none⟩ (.int .i64 x)) B D (.slice (some ⟨g,0,none⟩) n cap) (l.set i x):=by
 rcases h with ⟨hv,_⟩ | ⟨g',cap',cur,hv,hb,hd,hg,h1,h2,h3,h4⟩
 ·simp at hv
 ·simp only [Value.slice.injEq,Option.some.injEq,Addr.mk.injEq,and_true] at hv;obtain ⟨rfl,rfl,rfl⟩:=hv;refine .inr ⟨g,cap,cur.setIfInBounds i (.int .i64 x),by simp,hb,hd,z0l hg _,by simpa using h1,h2,by simpa using h3,fun j hj=>?_⟩;rw [List.length_set] at hj;by_cases e:i=j
  ·subst e;simp [List.getD,hj,show i < cur.size by omega]
  ·rw [Array.getElem?_setIfInBounds_ne e,h4 j hj];simp [List.getD,e]
theorem zq.out {w w':World} {B D B' D':Nat} {v:Value} {l:List Int} (h:zq w B D v l) (k:Out B' D' w w') (hd:D≤B'∨D'≤B):zq w' B D v l :=
 h.kept (fun j h0 h1 h2=>by rcases hd with hd | hd;exact k.below.block j (by omega);exact k.block j (by omega) h0)
def wtB (n:Int):Bool:=decide (0≤n∧n≤100000)
def zB (t:Int) (l:List Int):Bool:=wtB t && decide (l.length≤100) && l.all wtB
theorem z7F (n:Int):inB n 0 100000=wtB n:=rfl
theorem zh6 {l:List Int} {k:Nat} (h:k < l.length) (h1:(l.take k).all wtB=true) (h2:wtB (l.getD k 0)=true):(l.take (k+1)).all wtB=true:=by
 rw [List.take_add_one,List.all_append,h1];simp [List.getD,h] at h2 ⊢;exact h2
theorem zir {l:List Int} {k:Nat} (h:k < l.length) (h2:wtB (l.getD k 0)=false):l.all wtB=false:=by
 rw [List.all_eq_false];refine ⟨l[k],List.getElem_mem h,?_⟩;simp [List.getD,h] at h2;simp [h2]
theorem z2W {l:List Int} (h:l.all wtB=true) {i:Nat} (hi:i < l.length):0≤l.getD i 0∧l.getD i 0≤100000:=by
 have:=List.all_eq_true.1 h (l[i]) (List.getElem_mem hi);simp [wtB] at this
 simpa [List.getD,hi] using this
def zF (l:List Int) (k:Nat):Int:=(l.take k).sum
theorem z1A {l:List Int} {k:Nat} (h:k < l.length):zF l (k+1)=zF l k+l.getD k 0:=by
 rw [zF,List.take_add_one,List.sum_append,zF];simp [List.getD,h]
theorem z1v (l:List Int):zF l l.length=l.sum:=by rw [zF,List.take_length]
theorem z4d {l:List Int} (h:l.all wtB=true):∀ k,k≤l.length→0≤zF l k∧zF l k≤k * 100000
 | 0,_=>by simp [zF]
 | k+1,hk=>by
  have h1:=z4d h k (by omega);have h2:=z2W h (i:=k) (by omega);rw [z1A (by omega)];omega
theorem z2z {l:List Int} (h:l.all wtB=true):0≤l.sum∧l.sum≤l.length * 100000:=by
 have:=z4d h l.length (Nat.le_refl _)
 rwa [z1v] at this
theorem z03 {t:Int} {l:List Int} (h:zB t l=true):(0≤t∧t≤100000)∧l.length≤100∧l.all wtB=true:=by
 simp only [zB,Bool.and_eq_true,decide_eq_true_eq] at h;obtain ⟨⟨h1,h2⟩,h3⟩:=h;simp only [wtB,decide_eq_true_eq] at h1;exact ⟨h1,h2,h3⟩
theorem z6B (n:Int):wrap64 n=(n+9223372036854775808) % 18446744073709551616 - 9223372036854775808:=by unfold wrap64;rfl
theorem z9n (a b:Int):wrap64 (wrap64 a+b)=wrap64 (a+b):=by simp only [z6B];omega
theorem zfl (a b:Int):wrap64 (a+wrap64 b)=wrap64 (a+b):=by simp only [z6B];omega
theorem zji (a b:Int):wrap64 (wrap64 a - b)=wrap64 (a - b):=by simp only [z6B];omega
theorem z35 {a:Int} (h:-9223372036854775808≤a∧a≤9223372036854775807):wrap64 a=a:=by rw [z6B];omega
theorem zh7 (a:Int):-9223372036854775808≤wrap64 a∧wrap64 a≤9223372036854775807:=by rw [z6B];omega
def zfm (l:List Int) (col:Int):Nat:=(min (max col 0) l.length).toNat
def atV (l:List Int) (gap col:Int):Int:=wrap64 (zF l (zfm l col)+gap * (zfm l col:Nat))
def zkH (l:List Int) (gap col:Int):Int:=if inB col 0 (l.length - 1)=true then wrap64 (atV l gap col+l.getD col.toNat 0) else 0
def z2m (l:List Int) (p:Nat→Bool):Nat→List Int
 | 0=>[]
 | k+1=>if p k=true then z2m l p k ++ [l.getD k 0] else z2m l p k
theorem zbZ (l:List Int) (p:Nat→Bool):∀ k,(z2m l p k).length≤k
 | 0=>Nat.le_refl _
 | k+1=>by
  have:=zbZ l p k;unfold z2m
  split
  ·rw [List.length_append,List.length_singleton];omega
  ·omega
def z1H (xs:List Int) (gap:Int):Int:=if xs.length=0 then 0 else wrap64 (xs.sum+gap * ((xs.length:Int) - 1))
theorem zc0 {xs:List Int} (h:xs.length=0) (gap:Int):z1H xs gap=0:=by unfold z1H;rw [if_pos h]
theorem z3f {xs:List Int} (h:xs.length ≠ 0) (gap:Int):z1H xs gap=wrap64 (xs.sum+gap * ((xs.length:Int) - 1)):=by unfold z1H;rw [if_neg h]
theorem zes (xs:List Int) (h:xs.length=0) (gap x:Int):z1H (xs ++ [x]) gap=wrap64 (z1H xs gap+x):=by
 obtain rfl:xs=[]:=List.eq_nil_of_length_eq_zero h;rw [zc0 h,z3f (by simp)];simp
theorem zfn (xs:List Int) (h:xs.length ≠ 0) (gap x:Int):z1H (xs ++ [x]) gap=wrap64 (wrap64 (z1H xs gap+gap)+x):=by
 rw [z3f h,z3f (by simp),z9n,List.sum_append,List.length_append,List.length_singleton]
 have e:gap * (((xs.length+1:Nat):Int) - 1)=gap * ((xs.length:Int) - 1)+gap:=by
  rw [show (((xs.length+1:Nat):Int) - 1)=((xs.length:Int) - 1)+1 by omega,Int.mul_add,Int.mul_one]
 rw [e];simp only [List.sum_cons,List.sum_nil];generalize gap * ((xs.length:Int) - 1)=y;generalize xs.sum=z;simp only [z6B];omega
theorem zu.take {w:World} {a:Option Addr} {n cap:Nat} {l:List Int} (h:zu w (.slice a n cap) l) {m:Nat} (hm:m≤l.length):zu w (.slice a m cap) (l.take m):=by
 obtain ⟨a',cap',hv,h1,h2,h3⟩:=h;simp only [Value.slice.injEq] at hv;obtain ⟨rfl,rfl,rfl⟩:=hv;have hl:(l.take m).length=m:=(by rw [List.length_take];omega);refine ⟨a,cap,by rw [hl],by omega,h2,fun i hi=>?_⟩;rw [hl] at hi;obtain ⟨b,off,h4,h5,h6⟩:=h3 i (by omega);refine ⟨b,off,h4,h5,?_⟩;rw [h6];simp [List.getD,hi]
def z3y (ps:List PgS):Nat→Int
 | 0=>0
 | k+1=>z3y ps k+((ps.getD k dP).t - (ps.getD k dP).f)
def zbX (ps:List PgS):Int:=wrap64 (z3y ps ps.length)
theorem zis (ps:List PgS) (k:Nat):wrap64 (wrap64 (z3y ps k)+wrap64 ((ps.getD k dP).t - (ps.getD k dP).f))=wrap64 (z3y ps (k+1)):=by rw [z9n,zfl,z3y]
theorem zit (ps:List PgS) (k:Nat):wrap64 (wrap64 (wrap64 (z3y ps k)+(ps.getD k dP).t) - (ps.getD k dP).f)=wrap64 (z3y ps (k+1)):=by rw [zji,z3y];simp only [z6B];omega
def rwP (ps:List PgS) (row:Int):Nat→Int
 | 0=>0
 | k+1=>if (ps.getD k dP).r=row then rwP ps row k+((ps.getD k dP).t - (ps.getD k dP).f) else rwP ps row k
def zjj (pss:List (List PgS)) (row:Int):Nat→Int
 | 0=>0
 | k+1=>zjj pss row k+rwP (pss.getD k []) row (pss.getD k []).length
def zkI (pss:List (List PgS)) (row:Int):Int:=wrap64 (zjj pss row pss.length)
def zkf (row:Int) (ps:List PgS):Bool:=ps.any (fun x=>x.r == row)
def zkw (pss:List (List PgS)) (row:Int):Int:=match pss.findIdx? (zkf row) with | some k=>(k:Int) | none=>-1
def hiS (ps:List PgS):Int:=(ps.map fun s=>s.t - s.f).sum
theorem ziu:hiS []=0:=rfl
theorem z1Q (a b:List PgS):hiS (a ++ b)=hiS a+hiS b:=by simp [hiS]
theorem z36 (s:PgS):hiS [s]=s.t - s.f:=by simp [hiS]
def z2g (page:List PgS) (s:PgS):List PgS:=match page.getLast? with
 | none=>[s]
 | some l=>if l.r=s.r then page.dropLast ++ [⟨l.r,l.f,s.t⟩] else page ++ [s]
def zT (page piece:List PgS):List PgS:=piece.foldl z2g page
def zD (rm:List Int) (k:Nat):Int:=rm.getD (min k (rm.length - 1)) 0
def z0B (page piece:List PgS) (room:Int):Bool:=page.isEmpty || decide (hiS page+hiS piece≤room)
def zQ (rm:List Int) (st:List (List PgS) × List PgS) (piece:List PgS):List (List PgS) × List PgS :=
 if z0B st.2 piece (zD rm st.1.length) then (st.1,zT st.2 piece) else (st.1 ++ [st.2],zT [] piece)
def z4x (rm:List Int) (pieces:List (List PgS)):List (List PgS) :=
 let st:=pieces.foldl (zQ rm) ([],[])
 st.1 ++ [st.2]
def z0f (r:Int) (f:Int) (n:Nat):List (List PgS):=(List.range n).map fun k:Nat=>[⟨r,f+k,f+k+1⟩]
theorem z4e (r f:Int) (n:Nat):z0f r f (n+1)=[⟨r,f,f+1⟩] :: z0f r (f+1) n:=by
 unfold z0f;rw [List.range_succ_eq_map];simp only [List.map_cons,List.map_map]
 congr 1
 ·simp
 ·refine List.map_congr_left fun k _=>?_;simp only [Function.comp]
  congr 2 <;> omega
theorem zc1 (rm:List Int) (r:Int):∀ (n:Nat) (pgs:List (List PgS)) (page:List PgS) (f0 f:Int),(n:Int)≤zD rm pgs.length - hiS (page ++ [⟨r,f0,f⟩]) →
  (z0f r f n).foldl (zQ rm) (pgs,page ++ [⟨r,f0,f⟩])=(pgs,page ++ [⟨r,f0,f+n⟩])
 | 0,pgs,page,f0,f,_=>by simp [z0f]
 | n+1,pgs,page,f0,f,h=>by
  rw [z4e,List.foldl_cons]
  have e:zQ rm (pgs,page ++ [⟨r,f0,f⟩]) [⟨r,f,f+1⟩]=(pgs,page ++ [⟨r,f0,f+1⟩]):=by
   unfold zQ z0B;rw [if_pos (by simp only [Bool.or_eq_true,decide_eq_true_eq];right;rw [z36];simp only;omega)];simp [zT,z2g]
  rw [e]
  have ih:=zc1 rm r n pgs page f0 (f+1) (by
   rw [z1Q,z36] at h ⊢;simp only at h ⊢
   omega)
  rw [ih];have:f+1+(n:Int)=f+((n+1:Nat):Int):=(by omega);rw [this]
theorem z7G {rm:List Int} {pgs:List (List PgS)} {page piece:List PgS} (h:z0B page piece (zD rm pgs.length)=true):zQ rm (pgs,page) piece=(pgs,zT page piece):=by
 unfold zQ;rw [if_pos h]
theorem zfo {rm:List Int} {pgs:List (List PgS)} {page piece:List PgS} (h:z0B page piece (zD rm pgs.length)=false):zQ rm (pgs,page) piece=zQ rm (pgs ++ [page],[]) piece:=by
 unfold zQ;rw [if_neg (by simp only;rw [h];simp),if_pos (by simp [z0B])]
theorem zaO {rm:List Int} {pgs:List (List PgS)} {page piece:List PgS} {l:List (List PgS)} (h:z0B page piece (zD rm pgs.length)=false):(piece :: l).foldl (zQ rm) (pgs,page)=(piece :: l).foldl (zQ rm) (pgs ++ [page],[]):=by
 rw [List.foldl_cons,List.foldl_cons,zfo h]
theorem zh8 {rm:List Int} {r f:Int} {n:Nat} (hn:0 < n) {pgs:List (List PgS)} {page:List PgS} (hp:page ≠ []) (hf:zD rm pgs.length - hiS page≤0) :
  (z0f r f n).foldl (zQ rm) (pgs,page)=(z0f r f n).foldl (zQ rm) (pgs ++ [page],[]):=by
 obtain ⟨m,rfl⟩:=Nat.exists_eq_succ_of_ne_zero (Nat.pos_iff_ne_zero.1 hn);rw [z4e];refine zaO ?_;unfold z0B;rw [Bool.or_eq_false_iff];refine ⟨by cases page with | nil=>exact absurd rfl hp | cons a l=>rfl,decide_eq_false ?_⟩;rw [z36];simp only;omega
def z5W (page:List PgS) (r:Int):Prop:=∀ l,page.getLast?=some l→l.r ≠ r
theorem z8Z {page:List PgS} {s:PgS} (h:z5W page s.r):z2g page s=page ++ [s]:=by
 unfold z2g
 split
 ·rename_i e
  rw [List.getLast?_eq_none_iff] at e;rw [e];rfl
 ·rename_i l e
  rw [if_neg (h l e)]
theorem zet (r f:Int) (a b:Nat):z0f r f (a+b)=z0f r f a ++ z0f r (f+a) b:=by
 unfold z0f;rw [List.range_add,List.map_append,List.map_map]
 congr 1
 refine List.map_congr_left fun k _=>?_;simp only [Function.comp]
 congr 2 <;> omega
theorem zjk {rm:List Int} {r f:Int} {n k:Nat} (hk:0 < k) (hkn:k≤n) {pgs:List (List PgS)} {page:List PgS} (hl:z5W page r) (hf:page=[]∨0 < zD rm pgs.length - hiS page)
  (hr:(k:Int)≤max 1 (zD rm pgs.length - hiS page)) :
  (z0f r f n).foldl (zQ rm) (pgs,page)=(z0f r (f+k) (n - k)).foldl (zQ rm) (pgs,page ++ [⟨r,f,f+k⟩]):=by
 obtain ⟨m,rfl⟩:=Nat.exists_eq_succ_of_ne_zero (Nat.pos_iff_ne_zero.1 hk);obtain ⟨q,rfl⟩:=Nat.exists_eq_add_of_le hkn;have e1:m.succ+q - m.succ=q:=(by omega);rw [e1,zet,List.foldl_append]
 congr 1
 rw [Nat.succ_eq_add_one,z4e,List.foldl_cons]
 have e:zQ rm (pgs,page) [⟨r,f,f+1⟩]=(pgs,page ++ [⟨r,f,f+1⟩]):=by
  rw [z7G]
  ·unfold zT;rw [List.foldl_cons,List.foldl_nil,z8Z hl]
  ·unfold z0B
   rcases hf with rfl | hf
   ·rfl
   ·rw [Bool.or_eq_true]
    right
    rw [z36];simp only;exact decide_eq_true (by omega)
 rw [e]
 cases m with
 | zero=>simp [z0f]
 | succ m =>
  rw [zc1 rm r (m+1) pgs page f (f+1) (by
   rw [z1Q,z36];simp only
   omega)]
  congr 4
  omega
def zK (hs:List Int) (a:Nat):Nat→List PgS
 | 0=>[]
 | n+1=>⟨(a:Int),0,hs.getD a 0⟩ :: zK hs (a+1) n
theorem z6C (hs:List Int):∀ (n a:Nat),zK hs a (n+1)=zK hs a n ++ [⟨((a+n:Nat):Int),0,hs.getD (a+n) 0⟩]
 | 0,a=>by simp [zK]
 | n+1,a=>by
  rw [zK,z6C hs n (a+1),zK];have:a+1+n=a+(n+1):=(by omega);rw [this];rfl
theorem z1O (hs:List Int):∀ (n a:Nat),(zK hs a n).length=n
 | 0,_=>rfl
 | n+1,a=>by rw [zK,List.length_cons,z1O hs n]
def z3l (page:List PgS) (r:Nat):Prop:=∀ s ∈ page,s.r < r
theorem z3l.last {page:List PgS} {r:Nat} (h:z3l page r):z5W page r:=fun l hl=>by
 have:=h l (List.mem_of_getLast? hl);omega
theorem z6Z (hs:List Int):∀ (n a:Nat) (page:List PgS),z3l page a→zT page (zK hs a n)=page ++ zK hs a n∧z3l (page ++ zK hs a n) (a+n)
 | 0,a,page,h=>by simp [zT,zK];exact h
 | n+1,a,page,h=>by
  have h1:z3l (page ++ [⟨(a:Int),0,hs.getD a 0⟩]) (a+1):=by
   intro s hs'
   rcases List.mem_append.1 hs' with hm | hm
   ·have:=h s hm;omega
   ·rw [List.mem_singleton.1 hm];simp only;omega
  obtain ⟨i1,i2⟩:=z6Z hs n (a+1) _ h1;unfold zT at i1 ⊢;rw [zK,List.foldl_cons,z8Z (by exact h.last)];rw [List.append_assoc,List.singleton_append] at i1 i2;refine ⟨i1,?_⟩;have:a+1+n=a+(n+1):=(by omega)
  rwa [this] at i2
theorem zfA {a b:Bool} (h:a=b):Ending.returned (.bool a)=.returned (.bool b):=by rw [h]
def zkJ (row ins:Int) (x:GC):Bool:=(x.row == row) && (x.ins == ins)
def z0H (x first many:Int):Bool:=decide (first≤x) && decide (0 < many) && decide (x - first < many)
def zky (row col:Int) (x:GC):Bool:=z0H row x.row x.rows && z0H col x.col x.cols
theorem zhb {x f:Int} (hx:-9223372036854775808≤x∧x≤9223372036854775807) (hf:-9223372036854775808≤f∧f≤9223372036854775807) (h:f≤x):IntKind.u64.wrap (IntKind.u64.wrap x - IntKind.u64.wrap f)=x - f:=by
 simp [IntKind.wrap,IntKind.bits,IntKind.signed];omega
theorem z8G (x f m:Int) (hx:I64 x) (hf:I64 f) (hm:I64 m) (w:World) :
  Calls Tryz.prog 142 #[.int .i64 f,.int .i64 m,.int .i64 x] w fun e w'=>e=.returned (.bool (z0H x f m))∧w'=w:=by
 unfold I64 at hx hf hm;by_cases h1:f≤x
 ·by_cases h2:0 < m
  ·have e:z0H x f m=decide (x - f < m):=(by simp [z0H];omega);rw [e];go_enter Tryz.func142,Tryz.ntmps142;go_wp2;go_ret;exact ⟨zfA (by rw [zhb hx hf h1]),rfl⟩
  ·have e:z0H x f m=false:=(by simp [z0H];omega);rw [e];go_enter Tryz.func142,Tryz.ntmps142;go_wp2;go_ret;exact ⟨rfl,rfl⟩
 ·have e:z0H x f m=false:=(by simp [z0H];omega);rw [e];go_enter Tryz.func142,Tryz.ntmps142;go_wp2;go_ret;exact ⟨rfl,rfl⟩
def zkK (rs:List R) (k:Nat):Nat:=((rs.take k).map (fun x=>x.cells.length)).sum
def z1B (s:PgS):List Value:=[.int .i64 s.r,.int .i64 s.f,.int .i64 s.t]
def zJ (w:World) (base:Nat) (v:Value) (ps:List PgS):Prop:=w.ownsRow base 80 3 v ps.length (ps.flatMap z1B)
theorem zJ.at {w:World} {base:Nat} {v:Value} {ps:List PgS} (h:zJ w base v ps):z2I w base v ps:=by
 rcases h.2 with ⟨rfl,hn⟩ | ⟨g,cap,cur,rfl,hg,hc,h1,h2,_⟩
 ·exact ⟨none,0,by rw [hn],by omega,by unfold maxLen;omega,fun i hi=>by omega⟩
 ·refine ⟨_,cap,rfl,h1,h2,fun i hi=>⟨g,0,rfl,(bL hc),hg,?_⟩⟩
  have hx:∀ j,j < 3→w.cell? ⟨g,i * 3+j,none⟩=(z1B ps[i])[j]?:=fun j hj=>by
   have e:=z4o z1B 3 (fun _=>rfl) ps i hi j hj;rw [z4p h (u:=(z1B ps[i])[j]'(by show j < 3;exact hj)) (by rw [e];simp)];simp
  have e1:ps.getD i dP=ps[i]:=(by simp [List.getD,hi]);show PIs w g (0+i * 3) (ps.getD i dP);rw [e1,Nat.zero_add];exact ⟨hx 0 (by omega),hx 1 (by omega),hx 2 (by omega)⟩
theorem z7U:(Tryz.prog.info? 80).map (fun i=>(i.zero,i.size,i.bytes))=some (some (Value.agg #[.int .i64 0,.int .i64 0,.int .i64 0]),3,24):=by kernel_rfl
theorem z5Z:(Tryz.prog.info? 73).map (fun i=>(i.zero,i.size,i.bytes))=some (some (Value.slice none 0 0),1,24):=by kernel_rfl
theorem zJ.next {w:World} {base:Nat} {v:Value} {ps:List PgS} {s:PgS} (h:w.ownsRow base 80 3 v (ps.length+1) (ps.flatMap z1B ++ [.int .i64 s.r,.int .i64 s.f,.int .i64 s.t])):zJ w base v (ps ++ [s]):=by
 unfold zJ;rw [List.length_append,List.flatMap_append]
 simpa [z1B] using h
theorem zJ.kept {w w':World} {base:Nat} {v:Value} {ps:List PgS} (h:zJ w base v ps) (hb:Below w.heap.size w w'):zJ w' base v ps :=
 ⟨h.1,h.2.elim Or.inl (fun ⟨g,cap,cur,hv,hg,hc,r⟩=>Or.inr ⟨g,cap,cur,hv,hg,(hb.block g (bL hc)).trans hc,r⟩)⟩
theorem zJ.nil (w:World) (base:Nat):zJ w base (.slice none 0 0) []:=⟨rfl,.inl ⟨rfl,rfl⟩⟩
theorem zJ.form {w:World} {base:Nat} {v:Value} {ps:List PgS} (h:zJ w base v ps):∃ a cap,v=.slice a ps.length cap:=by
 rcases h.2 with ⟨hv,h0⟩ | ⟨g,cap,cur,hv,_⟩
 ·exact ⟨none,0,by rw [h0];exact hv⟩
 ·exact ⟨_,_,hv⟩
theorem zJ.base {w:World} {base base':Nat} {v:Value} {ps:List PgS} (h:zJ w base v ps) (hb:base'≤base):zJ w base' v ps :=
 ⟨h.1,h.2.elim Or.inl (fun ⟨g,cap,cur,hv,hg,r⟩=>Or.inr ⟨g,cap,cur,hv,Nat.le_trans hb hg,r⟩)⟩
theorem z7y (hs:List Int) (a n:Nat) (hn:a+n≤hs.length) (hl:hs.length≤1000) (v:Value) (w:World) (h:zu w v hs) :
  Calls Tryz.prog 80 #[v,.int .i64 (a:Int),.int .i64 ((a:Int)+(n:Int))] w fun e w'=>∃ u,e=.returned u∧zJ w' w.heap.size u (zK hs a n)∧Below w.heap.size w w':=by
 obtain ⟨i0,hi0,hz0,hz1,hz2⟩:=info_parts z7U;obtain ⟨av,cv,rfl,_⟩:=h.form;have H:=Hd h;clear h;go_enter Tryz.func80,Tryz.ntmps80;go_wp2_with fail
 go_loopw [7,8] (fun o i W=>∃ k:Nat,k≤n∧i=.int .i64 ((a:Int)+(k:Int))∧Hid (zJ W w.heap.size o (zK hs a k))∧Hid (Below w.heap.size w W)) (fun _ i _=>a+n - (intOf i).toNat)
 case atStart=>exact ⟨0,Nat.zero_le _,by simp,zJ.nil _ _,Below.refl _ _⟩
 case round =>
  obtain ⟨k,hk,rfl,HO,HB⟩:=hrel;obtain ⟨ao,co,rfl⟩:=HO.out.form;rw [z1O] at HO ⊢;by_cases hlt:k < n
  case neg =>
   obtain rfl:k=n:=by omega
   go_wp2;go_ret;exact ⟨_,rfl,HO.out,HB.out⟩
  obtain ⟨b,off,cap',e',hc1,hc2,hbl,hx⟩:=(H.out.kept HB.out).get (i:=a+k) (by omega);simp only [Value.slice.injEq,true_and] at e';obtain ⟨rfl,rfl⟩:=e';unfold maxLen at hc2;have HE:=Hd (z6C hs k a);have hlw:=z1O hs k a;have hO:=HO.out;unfold zJ at hO;rw [hlw] at hO;have hsz:=HB.out.size;generalize hs.getD (a+k) 0=y at hx HE;generalize zK hs a k=ps at HO HE hlw hO;go_wp2_with (at_builtin;refine wpList_append_own _ rfl _ _ 73 rfl w.heap.size 80 i0 _ 3 24 Tryz.underlying73 hi0 hz0 hz1 hz2 rfl (by decide) _ _ _ rfl (hO.alloc _) ⟨wr.heap.size,0,none⟩ 1 1 (z1B ⟨(a:Int)+(k:Int),0,y⟩) rfl rfl ?c1 ?c2 ?c3 ?c4 ?c5 ?_)
  case c1=>exact z0D (zj wr _)
  case c2=>simp [z1B,Value.oneCell']
  case c3=>unfold maxLen;omega
  case c4=>omega
  case c5=>simp;omega
  intro v' w2 hown' hgrow' _;have HB2:=Hd ((ze HB.out (.cells #[.int .i64 ((a:Int)+(k:Int)),.int .i64 0,.int .i64 y] 80)).grown hgrow' (by simp;omega) (fun b hb=>(hO.lt b hb).1))
  have HO2:Hid (zJ w2 w.heap.size v' (zK hs a (k+1))):=by
   show zJ _ _ _ _;rw [HE.out,Int.natCast_add];exact zJ.next (by rw [hlw];exact hown')
  obtain ⟨g',cap',rfl⟩:=Joins.ownsRow_form hown' (by omega);clear hown' hgrow' hO HO HB hx hlw;go_wp2;go_roundw
  case rel=>exact ⟨k+1,by omega,by go_num,HO2,HB2⟩
  case measure=>simp [intOf];omega
theorem z97 {w:World} {base base':Nat} {e:TypeId} {sz:Nat} {v:Value} {m:Nat} {xs:List Value} (h:w.ownsRow base e sz v m xs) (hb:base'≤base):w.ownsRow base' e sz v m xs :=
 ⟨h.1,h.2.elim Or.inl (fun ⟨g,cap,cur,hv,hg,r⟩=>Or.inr ⟨g,cap,cur,hv,Nat.le_trans hb hg,r⟩)⟩
theorem zJ.grown {w w':World} {B base:Nat} {v U:Value} {l:List PgS} {m:Nat} {xs:List Value} (h:zJ w B v l) (hU:w.ownsRow base 73 1 U m xs) (k:w.grownBy w' U.ownBlock):zJ w' B v l :=
 ⟨h.1,h.2.elim Or.inl (fun ⟨g,cap,cur,hv,hg,hc,r⟩=>Or.inr ⟨g,cap,cur,hv,hg,zY hc k (z08 (zo hU hc (by decide))),r⟩)⟩
def zZ (w:World) (B:Nat) (us:List Value) (ls:List (List PgS)):Prop:=us.length=ls.length∧∀ i,i < ls.length→zJ w B (us.getD i (.slice none 0 0)) (ls.getD i [])
theorem zZ.nil (w:World) (B:Nat):zZ w B [] []:=⟨rfl,fun i hi=>absurd hi (Nat.not_lt_zero i)⟩
theorem zZ.kept {w w':World} {B:Nat} {us:List Value} {ls:List (List PgS)} (h:zZ w B us ls) (k:Below w.heap.size w w'):zZ w' B us ls:=⟨h.1,fun i hi=>(h.2 i hi).kept k⟩
theorem zZ.base {w:World} {B B':Nat} {us:List Value} {ls:List (List PgS)} (h:zZ w B us ls) (k:B'≤B):zZ w B' us ls:=⟨h.1,fun i hi=>(h.2 i hi).base k⟩
theorem zZ.grown {w w':World} {B base:Nat} {U:Value} {us:List Value} {ls:List (List PgS)} {m:Nat} {xs:List Value} (h:zZ w B us ls) (hU:w.ownsRow base 73 1 U m xs) (k:w.grownBy w' U.ownBlock):zZ w' B us ls:=⟨h.1,fun i hi=>(h.2 i hi).grown hU k⟩
theorem zZ.app {w:World} {B:Nat} {us us':List Value} {ls ls':List (List PgS)} (h:zZ w B us ls) (h':zZ w B us' ls'):zZ w B (us ++ us') (ls ++ ls'):=by
 refine ⟨by rw [List.length_append,List.length_append,h.1,h'.1],fun i hi=>?_⟩;rw [List.length_append] at hi
 rcases Nat.lt_or_ge i ls.length with h1 | h1
 ·have e1:(us ++ us').getD i (.slice none 0 0)=us.getD i (.slice none 0 0):=by
   rw [List.getD_eq_getElem?_getD,List.getElem?_append_left (by rw [h.1];exact h1),← List.getD_eq_getElem?_getD]
  have e2:(ls ++ ls').getD i []=ls.getD i []:=by
   rw [List.getD_eq_getElem?_getD,List.getElem?_append_left h1,← List.getD_eq_getElem?_getD]
  rw [e1,e2];exact h.2 i h1
 ·have e1:(us ++ us').getD i (.slice none 0 0)=us'.getD (i - ls.length) (.slice none 0 0):=by
   rw [List.getD_eq_getElem?_getD,List.getElem?_append_right (by rw [h.1];exact h1),h.1,← List.getD_eq_getElem?_getD]
  have e2:(ls ++ ls').getD i []=ls'.getD (i - ls.length) []:=by
   rw [List.getD_eq_getElem?_getD,List.getElem?_append_right h1,← List.getD_eq_getElem?_getD]
  rw [e1,e2];exact h'.2 _ (by omega)
theorem zZ.one {w:World} {B:Nat} {u:Value} {l:List PgS} (h:zJ w B u l):zZ w B [u] [l]:=by
 refine ⟨rfl,fun i hi=>?_⟩;have:i=0:=(by simpa using hi);subst this;exact h
theorem zZ.pss {w:World} {B base z:Nat} {v:Value} {us:List Value} {ls:List (List PgS)} (h:zZ w B us ls) (hO:w.ownsRow base 73 1 v us.length us) (hz:z≤base) (hzB:z≤B):z1T w z v ls:=by
 unfold z1T;have hul:=h.1
 rcases hO.2 with ⟨hv,h0⟩ | ⟨g,cap,cur,hv,hb,hg,h1,h2,h3,h4⟩
 ·exact ⟨none,0,by rw [← hul,h0];exact hv,by omega,Nat.zero_le _,fun i hi=>by omega⟩
 ·refine ⟨some ⟨g,0,none⟩,cap,by rw [← hul];exact hv,by omega,h2,fun i hi=>⟨g,0,rfl,(bL hg),by omega,us.getD i (.slice none 0 0),?_,(h.2 i hi).at.base hzB⟩⟩;have:cur.toList[i]?=us[i]?:=(by rw [← h4,List.getElem?_take_of_lt (by omega)]);rw [Nat.zero_add,Nat.mul_one,zf hg,← Array.getElem?_toList,this];simp [List.getD,show i < us.length by omega]
theorem zdw (r f:Int) (k:Nat):z0f r f (k+1)=z0f r f k ++ [[⟨r,f+k,f+k+1⟩]]:=by simp [z0f,List.range_succ]
theorem zeL (r f:Int) (k:Nat):(z0f r f k).length=k:=by simp [z0f]
theorem ziH (w:World) (B:Nat) (hB:B≤w.heap.size) (s:PgS):zJ (w.alloc (.cells #[.int .i64 s.r,.int .i64 s.f,.int .i64 s.t] 80)) B (.slice (some ⟨w.heap.size,0,none⟩) 1 1) [s]:=by
 refine ⟨rfl,.inr ⟨w.heap.size,1,#[.int .i64 s.r,.int .i64 s.f,.int .i64 s.t],rfl,hB,zj _ _,Nat.le_refl _,by unfold maxLen;omega,rfl,?_⟩⟩;simp [z1B]
theorem zdx (r:Int) (n:Nat) (hn:n≤100000) (w:World) :
  Calls Tryz.prog 87 #[.agg #[.int .i64 r,.int .i64 0,.int .i64 (n:Int)]] w fun e w'=>∃ v us,e=.returned v∧w'.ownsRow w.heap.size 73 1 v us.length us∧zZ w' w.heap.size us (z0f r 0 n)∧Below w.heap.size w w':=by
 obtain ⟨i0,hi0,hz0,hz1,hz2⟩:=info_parts z5Z;have K0:=Hd (ze (Below.refl w.heap.size w) (.cells #[.int .i64 r,.int .i64 0,.int .i64 (n:Int)] 80));have X0:=Hd (zj w (.cells #[.int .i64 r,.int .i64 0,.int .i64 (n:Int)] 80));go_enter Tryz.func87,Tryz.ntmps87;go_wp2_with fail
 go_loopw [3,4] (fun o i W=>∃ (k:Nat) (us:List Value),k≤n∧i=.int .i64 (k:Int)∧us.length=k∧Hid (W.ownsRow (w.heap.size+1) 73 1 o k us)∧Hid (zZ W (w.heap.size+1) us (z0f r 0 k))∧Hid (Below w.heap.size w W)∧Hid (W.heap[w.heap.size]?=some (.cells #[.int .i64 r,.int .i64 0,.int .i64 (n:Int)] 80))) (fun _ i _=>n - (intOf i).toNat)
 case atStart=>exact ⟨0,[],Nat.zero_le _,rfl,rfl,⟨rfl,.inl ⟨rfl,rfl⟩⟩,zZ.nil _ _,K0,X0⟩
 case round =>
  clear K0 X0;obtain ⟨k,us,hk,rfl,hul,HO,HP,HB,HX⟩:=hrel;have c0:wr.cell? ⟨w.heap.size,0,none⟩=some (.int .i64 r):=zf HX.out;have c1:wr.cell? ⟨w.heap.size,1,none⟩=some (.int .i64 0):=zf HX.out;have c2:wr.cell? ⟨w.heap.size,2,none⟩=some (.int .i64 (n:Int)):=zf HX.out;obtain ⟨ao,co,rfl,_⟩:=z0i HO.out;have hsz:=(bL HX.out);by_cases hlt:k < n
  case neg =>
   obtain rfl:k=n:=by omega
   have HL:=Hd hul;clear hul;go_wp2;go_ret;exact ⟨_,us,rfl,by rw [HL.out];exact z97 HO.out (by omega),HP.out.base (by omega),HB.out⟩
  have HE:=Hd (zdw r 0 k);rw [Int.zero_add] at HE;have hO:=HO.out;have O1:=Hd (ziH wr (w.heap.size+1) (by omega) ⟨r,(k:Int),(k:Int)+1⟩);have HL:=Hd hul;clear hul;go_wp2_with (at_builtin;refine wpList_append_own _ rfl _ _ 45 rfl (w.heap.size+1) 73 i0 _ 1 24 Tryz.underlying45 hi0 hz0 hz1 hz2 rfl (by decide) _ _ _ rfl ((hO.alloc _).alloc _) ⟨wr.heap.size+1,0,none⟩ 1 1 [.slice (some ⟨wr.heap.size,0,none⟩) 1 1] rfl rfl ?c1 ?c2 ?c3 ?c4 ?c5 ?_)
  case c2=>rfl
  case c3=>unfold maxLen;omega
  case c4=>omega
  case c5=>omega
  intro v' w2 hown' hgrow' _;have hOA:=(hO.alloc (.cells #[.int .i64 r,.int .i64 (k:Int),.int .i64 ((k:Int)+1)] 80)).alloc (.cells #[.slice (some ⟨wr.heap.size,0,none⟩) 1 1] 73);have HB2:=Hd ((ze (ze HB.out (.cells #[.int .i64 r,.int .i64 (k:Int),.int .i64 ((k:Int)+1)] 80)) (.cells #[.slice (some ⟨wr.heap.size,0,none⟩) 1 1] 73)).grown hgrow' (by simp;omega) (fun b hb=>by have:=(hO.lt b hb).1;omega));have KA:=ze (ze (Below.refl wr.heap.size wr) (.cells #[.int .i64 r,.int .i64 (k:Int),.int .i64 ((k:Int)+1)] 80)) (.cells #[.slice (some ⟨wr.heap.size,0,none⟩) 1 1] 73);have HX2:=Hd (zY ((KA.block _ hsz).trans HX.out) hgrow' (z08 (zo hOA ((KA.block _ hsz).trans HX.out) (by decide))))
  have HP2:Hid (zZ w2 (w.heap.size+1) (us ++ [.slice (some ⟨wr.heap.size,0,none⟩) 1 1]) (z0f r 0 (k+1))):=by
   show zZ _ _ _ _;rw [HE.out];exact ((HP.out.kept KA).grown hOA hgrow').app (zZ.one ((O1.out.kept (ze (Below.refl _ _) _)).grown hOA hgrow'))
  have HL2:Hid ((us ++ [Value.slice (some ⟨wr.heap.size,0,none⟩) 1 1]).length=k+1):=(by show _=_;rw [List.length_append,HL.out];rfl);have HO2:=Hd hown';obtain ⟨g',cap',rfl⟩:=Joins.ownsRow_form hown' (by omega);clear hown' hgrow' hO HO HB HP HX hOA KA c0 c1 c2;go_wp2;go_roundw
  case rel=>exact ⟨k+1,_,by omega,by go_num,HL2.out,HO2,HP2,HB2,HX2⟩
  case measure=>simp [intOf];omega
theorem zg5 (x0 x1 x2:Int) (w:World) :
  Calls Tryz.prog 79 #[.agg #[.int .i64 x0,.int .i64 x1,.int .i64 x2]] w fun e w'=>e=.returned (.int .i64 (wrap64 (x2 - x1)))∧Below w.heap.size w w':=by
 go_enter Tryz.func79,Tryz.ntmps79;go_wp2;go_ret;exact ⟨rfl,ze (Below.refl _ _) _⟩
theorem z5q (v:Value) (ps:List PgS) (w:World) {z:Nat} (h:z2I w z v ps) :
  Calls Tryz.prog 34 #[v] w fun e w'=>e=.returned (.int .i64 (zbX ps))∧Below w.heap.size w w':=by
 obtain ⟨a,cap,rfl,hlen⟩:=At.form h;have H:=Hd h;clear h;go_enter Tryz.func34,Tryz.ntmps34;go_wp2_with fail
 go_loopw [3,8] (fun s i W=>∃ k:Nat,k≤ps.length∧i=.int .i64 k∧s=.int .i64 (wrap64 (z3y ps k))∧Hid (Below w.heap.size w W)) (fun _ i _=>ps.length - (intOf i).toNat)
 case atStart=>exact ⟨0,Nat.zero_le _,rfl,by simp [z3y,z6B],Below.refl _ _⟩
 case round =>
  obtain ⟨k,hk,rfl,rfl,HB⟩:=hrel;by_cases hlt:k < ps.length
  ·obtain ⟨b,off,cap',e',hc1,hc2,hbl,hx⟩:=At.get (H.out.kept HB.out) hlt;simp only [Value.slice.injEq,true_and] at e';obtain ⟨rfl,rfl⟩:=e';have HS:=Hd (zis ps k);generalize ps.getD k dP=x at hx HS;generalize wrap64 (z3y ps k)=s at HS ⊢;obtain ⟨x0,x1,x2⟩:=hx;unfold maxLen at hc2;go_wp2_with fail
   refine (zg5 _ _ _ _).mono ?_;rintro e w1 ⟨rfl,hb1⟩;have HB1:=Hd (zh (ze HB.out _) hb1);clear hb1 x0 x1 x2;generalize wrap64 (x.t - x.f)=y at HS ⊢;go_wp2;go_roundw
   case rel=>exact ⟨k+1,by omega,by go_num,by rw [← HS.out],HB1⟩
   case measure=>simp [intOf];omega
  ·obtain rfl:k=ps.length:=by omega
   go_wp2;go_ret;exact ⟨rfl,HB.out⟩
theorem zb7 (ps:List PgS):∀ k,k≤ps.length→z3y ps k=hiS (ps.take k)
 | 0,_=>by simp [z3y,hiS]
 | k+1,h=>by
  rw [z3y,zb7 ps k (by omega),List.take_succ_eq_append_getElem (by omega),z1Q,z36];simp [List.getD,show k < ps.length by omega]
theorem zhs (ps:List PgS):z3y ps ps.length=hiS ps:=by rw [zb7 ps _ (Nat.le_refl _),List.take_length]
def z3o (ps:List PgS):Prop:=0≤hiS ps∧hiS ps≤1000000
theorem z4r {ps:List PgS} (h:z3o ps):zbX ps=hiS ps:=by
 unfold z3o at h;rw [zbX,zhs];exact z35 (by omega)
theorem zg6 (pb:Nat) (v vp:Value) (room:Int) (page piece:List PgS) (h1:z3o page) (h2:z3o piece) (w:World) {z z':Nat} (hb:w.heap[pb]?=some (.cells #[v,.int .i64 room] 124)) (hv:z2I w z v page) (hp:z2I w z' vp piece) :
  Calls Tryz.prog 83 #[.pointer (some ⟨pb,0,none⟩),vp] w fun e w'=>e=.returned (.bool (z0B page piece room))∧Below w.heap.size w w':=by
 have hmx:Tryz.prog.follows .mixedOrders=true:=(by kernel_rfl);obtain ⟨av,cv,rfl,hlv⟩:=At.form hv;obtain ⟨ap,cp,rfl,hlp⟩:=At.form hp;have c0:w.cell? ⟨pb,0,none⟩=some (.slice av page.length cv):=zf hb;have c1:w.cell? ⟨pb,1,none⟩=some (.int .i64 room):=zf hb;have hlt:=(bL hb);have m0:=zi (a:=⟨pb,0,none⟩) hlt c0;have m1:=zi (a:=⟨pb,1,none⟩) hlt c1;have hne:=z0t w;have KA:=Hd (fun (u:BW w)=>z33 (by have:=z5q _ page u.u (hv.kept u.h);rw [z4r h1] at this;exact this));have KB:=Hd (fun (u:BW w)=>z33 (by have:=z5q _ piece u.u (hp.kept u.h);rw [z4r h2] at this;exact this));unfold z3o at h1 h2;clear hb hv hp c0 c1 hlv hlp;by_cases he:page=[]
 ·subst he;have HT:Hid (z0B [] piece room=true):=Hd rfl;simp only [List.length_nil] at m0 KA;go_enter Tryz.func83,Tryz.ntmps83;go_upto_region 1 with fail
  refine zn hmx (by kernel_rfl) ?_;repeat (go_big_quiet_step (first | (go_at_call_of 34 (av:Option Addr);refine KA.out _) | (go_at_call_of 34 (ap:Option Addr);refine KB.out _)))
  refine wpQuiet_nil ?_;intro W4 hw';obtain ⟨⟨Wx,hW4⟩,hw''⟩:=hw';subst hw'';go_wp2;go_ret;exact ⟨by rw [HT.out];rfl,hW4⟩
 ·have HT:Hid (z0B page piece room=decide (hiS page+hiS piece≤room)):=Hd (by
   unfold z0B
   cases page with
   | nil=>exact absurd rfl he
   | cons a l=>rfl)
  obtain ⟨m,hm⟩:∃ m,page.length=m+1:=Nat.exists_eq_succ_of_ne_zero (fun h=>he (List.eq_nil_of_length_eq_zero h));rw [hm] at m0 KA;have hz:(((m+1:Nat):Int) == 0)=false:=beq_eq_false_iff_ne.2 (by omega);have hz2:((m:Int)+1 == 0)=false:=beq_eq_false_iff_ne.2 (by omega);clear hm he;generalize hiS page=A at HT KA h1;generalize hiS piece=B at HT KB h2;go_enter Tryz.func83,Tryz.ntmps83;go_upto_region 1 with fail
  refine zn hmx (by kernel_rfl) ?_;repeat (go_big_quiet_step (first | (go_at_call_of 34 (av:Option Addr);refine KA.out _) | (go_at_call_of 34 (ap:Option Addr);refine KB.out _)))
  refine wpQuiet_nil ?_;intro W4 hw';obtain ⟨⟨Wx,hW4⟩,hw''⟩:=hw';subst hw'';go_wp2;go_ret;exact ⟨by rw [HT.out];rfl,hW4⟩
def z0Z (t:T) (hs:List Int):List PgS:=zK hs 0 t.head.toNat
def z11 (t:T) (hs:List Int):List PgS:=zK hs (t.rows.length - t.foot.toNat) t.foot.toNat
theorem z4C {hs:List Int} (hb:∀ x ∈ hs,0≤x∧x≤1000):∀ n a,n≤1000→0≤hiS (zK hs a n)∧hiS (zK hs a n)≤1000 * (n:Int)
 | 0,a,_=>by simp [zK,hiS]
 | n+1,a,hn=>by
  have h0:0≤hs.getD a 0∧hs.getD a 0≤1000:=by
   by_cases ha:a < hs.length
   ·exact hb _ (by simp [List.getD,ha])
   ·simp [List.getD,ha]
  have:=z4C hb n (a+1) (by omega);have e:hiS (zK hs a (n+1))=hs.getD a 0 - 0+hiS (zK hs (a+1) n):=(by simp [zK,hiS]);omega
theorem z79 {hs:List Int} (hb:∀ x ∈ hs,0≤x∧x≤1000) {n a:Nat} (hn:n≤8):z3o (zK hs a n):=by
 have:=z4C hb n a (by omega);exact ⟨this.1,by omega⟩
theorem z7V (hs:List Int) (a n:Nat) (hn:a+n≤hs.length) (hl:hs.length≤1000) (x y:Int) (hx:x=a) (hy:y=(a:Int)+n) (v:Value) (w:World) (h:zu w v hs) :
  Calls Tryz.prog 80 #[v,.int .i64 x,.int .i64 y] w fun e w'=>∃ u,e=.returned u∧zJ w' w.heap.size u (zK hs a n)∧Below w.heap.size w w':=by
 subst hx hy;exact z7y hs a n hn hl v w h
theorem zeM (vc vr:Value) (t:T) (hok:zC t=true) (hs:List Int) (hl:hs.length=t.rows.length) (v:Value) (w:World) (h:zu w v hs) :
  Calls Tryz.prog 35 #[.agg #[vc,.int .i64 t.head,.int .i64 t.foot,vr,.int .i64 t.gap],v] w fun e w'=>∃ u,e=.returned u∧zJ w' w.heap.size u (z0Z t hs)∧Below w.heap.size w w':=by
 have hbb:=z0Q hok;have K0:=Hd (ze (Below.refl w.heap.size w) (.cells #[vc,.int .i64 t.head,.int .i64 t.foot,vr,.int .i64 t.gap] 26));have X0:=zj w (.cells #[vc,.int .i64 t.head,.int .i64 t.foot,vr,.int .i64 t.gap] 26);have hs1:(w.alloc (.cells #[vc,.int .i64 t.head,.int .i64 t.foot,vr,.int .i64 t.gap] 26)).heap.size=w.heap.size+1:=(by simp);have KW:=Hd (fun W (h:zu W v hs)=>z7V hs 0 t.head.toNat (by omega) (by omega) 0 t.head rfl (by omega) v W h);have H:=Hd (h.kept K0.out);go_enter Tryz.func35,Tryz.ntmps35;go_upto_region 1 with fail
 generalize w.alloc (.cells #[vc,.int .i64 t.head,.int .i64 t.foot,vr,.int .i64 t.gap] 26)=W0 at K0 X0 hs1 H ⊢;obtain ⟨b0,b1,b2,b3,b4⟩:=zU X0;clear X0 h hl hbb;go_wp2_with fail
 refine (KW.out _ H.out).mono ?_;rintro e w1 ⟨u,rfl,hU,hb⟩;have HU:=Hd (hU.base (by omega:w.heap.size≤W0.heap.size));have HB:=Hd (zh K0.out hb);clear hU hb b0 b1 b2 b3 b4 hs1;go_wp2;go_ret;exact ⟨_,rfl,HU.out,HB.out⟩
theorem zeN (vc vr:Value) (t:T) (hok:zC t=true) (hs:List Int) (hl:hs.length=t.rows.length) (v:Value) (w:World) (h:zu w v hs) :
  Calls Tryz.prog 36 #[.agg #[vc,.int .i64 t.head,.int .i64 t.foot,vr,.int .i64 t.gap],v] w fun e w'=>∃ u,e=.returned u∧zJ w' w.heap.size u (z11 t hs)∧Below w.heap.size w w':=by
 have hbb:=z0Q hok;obtain ⟨av,cv,rfl,_⟩:=h.form;rw [hl] at h ⊢;have K0:=Hd (ze (Below.refl w.heap.size w) (.cells #[vc,.int .i64 t.head,.int .i64 t.foot,vr,.int .i64 t.gap] 26));have X0:=zj w (.cells #[vc,.int .i64 t.head,.int .i64 t.foot,vr,.int .i64 t.gap] 26);have hs1:(w.alloc (.cells #[vc,.int .i64 t.head,.int .i64 t.foot,vr,.int .i64 t.gap] 26)).heap.size=w.heap.size+1:=(by simp);have hsm:wrap64 ((t.rows.length:Int) - t.foot)=(t.rows.length:Int) - t.foot:=z35 (by omega);have KW:=Hd (fun W (h:zu W (.slice av t.rows.length cv) hs)=>z7V hs (t.rows.length - t.foot.toNat) t.foot.toNat (by omega) (by omega) ((t.rows.length:Int) - t.foot) t.rows.length (by omega) (by omega) (.slice av t.rows.length cv) W h);have H:=Hd (h.kept K0.out);go_enter Tryz.func36,Tryz.ntmps36;go_upto_region 1 with fail
 generalize w.alloc (.cells #[vc,.int .i64 t.head,.int .i64 t.foot,vr,.int .i64 t.gap] 26)=W0 at K0 X0 hs1 H ⊢;obtain ⟨b0,b1,b2,b3,b4⟩:=zU X0;clear X0 h hl hbb;go_wp2_with fail
 refine (KW.out _ H.out).mono ?_;rintro e w1 ⟨u,rfl,hU,hb⟩;have HU:=Hd (hU.base (by omega:w.heap.size≤W0.heap.size));have HB:=Hd (zh K0.out hb);clear hU hb b0 b1 b2 b3 b4 hs1 hsm;go_wp2;go_ret;exact ⟨_,rfl,HU.out,HB.out⟩
theorem ziK {high:List Int} {beside:Int} {K k:Nat} (hl:0 < high.length) (hk:k=min K (high.length - 1)):zD (high.map (· - beside)) K=high.getD k 0 - beside:=by
 unfold zD;rw [List.length_map,← hk];have:k < high.length:=(by omega);simp [List.getD,this]
theorem zhy (bb K:Nat) (av:Option Addr) (cv:Nat) (vh:Value) (high:List Int) (beside:Int) (hl:0 < high.length) (hl2:high.length≤60) (hK:K≤100000) (hh:∀ x ∈ high,0≤x∧x≤100) (hbs:0≤beside∧beside≤1000000) (w:World) (hb:w.heap[bb]?=some (.cells #[.slice av K cv,vh,.int .i64 beside] 76)) (hv:zu w vh high) :
  Calls Tryz.prog 81 #[.pointer (some ⟨bb,0,none⟩)] w fun e w'=>e=.returned (.int .i64 (zD (high.map (· - beside)) K))∧Below w.heap.size w w':=by
 obtain ⟨ah,ch,rfl,_⟩:=hv.form;have c0:w.cell? ⟨bb,0,none⟩=some (.slice av K cv):=zf hb;have c1:w.cell? ⟨bb,1,none⟩=some (.slice ah high.length ch):=zf hb;have c2:w.cell? ⟨bb,2,none⟩=some (.int .i64 beside):=zf hb;have HV:=Hd hv;clear hv hb;obtain ⟨k,hk⟩:∃ k,k=min K (high.length - 1):=⟨_,rfl⟩;have HR:=Hd (ziK (beside:=beside) hl hk);obtain ⟨b,off,cap',e',hc1,hc2,hbl,hx⟩:=HV.out.get (i:=k) (by omega);simp only [Value.slice.injEq,true_and] at e';obtain ⟨rfl,rfl⟩:=e';unfold maxLen at hc2
 have hy:0≤high.getD k 0∧high.getD k 0≤100:=hh _ (by
  have:k < high.length:=(by omega);simp [List.getD,this])
 generalize high.getD k 0=y at hx hy HR;obtain ⟨m,hm⟩:∃ m,high.length=m+1:=Nat.exists_eq_succ_of_ne_zero (by omega);rw [hm] at c1 hc1 hk;clear hm hh HV hl hl2;by_cases h1:(m:Int) < (K:Int)
 ·obtain rfl:k=m:=by omega
  have hmi:¬ ((K:Int) < (k:Int)+1 - 1):=(by omega);clear hk;go_enter Tryz.func81,Tryz.ntmps81;go_wp2_with fail
  go_region
  all_goals
   go_wp2;go_ret;exact ⟨by rw [HR.out];rfl,z1a (Below.refl _ _)⟩
 ·obtain rfl:k=K:=by omega
  have hmi:¬ ((m:Int)+1 - 1 < (k:Int)):=(by omega);clear hk;go_enter Tryz.func81,Tryz.ntmps81;go_wp2_with fail
  go_region
  all_goals
   go_wp2;go_ret;exact ⟨by rw [HR.out];rfl,z1a (Below.refl _ _)⟩
end Go.Proofs.YtggmjiddadjilamGreat
