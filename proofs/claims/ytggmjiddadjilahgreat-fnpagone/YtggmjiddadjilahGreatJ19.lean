/-
  PROVED HERE: what slices of rows on pages are in memory, for the other texts of this claim; they stay where what was in memory stays. Also: 18 more texts of the same proof.
-/
import Derived.Test.YtggmjiddadjilahGreatJ12
import Derived.Lib.AppendZeros
import Derived.Deep.DeepCutAuto
import Derived.Deep.RegionWith
set_option maxRecDepth 1000000
set_option maxHeartbeats 40000000
open Go.Proofs.Tryz
namespace Go.Proofs.YtggmjiddadjilahGreat
open Value (int)
open IntKind (i64)
open Go.RowKit
structure zk where
 r:Int
 f:Int
 t:Int
def dP:zk:=⟨0,0,0⟩
def PIs (w:World) (b o:Nat) (x:zk):Prop:=w.cell? ⟨b,o,none⟩=some (int i64 x.r)/\w.cell? ⟨b,o+1,none⟩=some (int i64 x.f)/\w.cell? ⟨b,o+2,none⟩=some (int i64 x.t)
def z1Y (w:World) (z:Nat) (v:Value) (ps:List zk):Prop:=At w z v ps.length 3 (λi b o=>PIs w b o (ps.getD i dP))
def z1p (w:World) (z:Nat) (v:Value) (pss:List (List zk)):Prop:=At w z v pss.length 1 (λi b o=>∃ u,w.cell? ⟨b,o,none⟩=some u/\z1Y w z u (pss.getD i []))
theorem PIs.since {w w':World} {z b o:Nat} {x:zk} (h:PIs w b o x) (hb:b < w.heap.size) (hz:z<=b) (k:z0J z w w'):PIs w' b o x:=by
 unfold PIs at h |-;simp only [k.cell hz hb];exact h
theorem z1Y.since {w w':World} {z:Nat} {v:Value} {ps:List zk} (h:z1Y w z v ps) (k:z0J z w w'):z1Y w' z v ps :=
 At.mono h k.size lR (λ_ _ _ _ hb hz he=>he.since hb hz k)
theorem z1p.since {w w':World} {z:Nat} {v:Value} {pss:List (List zk)} (h:z1p w z v pss) (k:z0J z w w'):z1p w' z v pss :=
 At.mono h k.size lR (λ_ _ _ _ hb hz ⟨u,h1,h2⟩=>⟨u,(k.cell hz hb _).trans h1,h2.since k⟩)
theorem z1Y.kept {w w':World} {z:Nat} {v:Value} {ps:List zk} (h:z1Y w z v ps) (k:Below w.heap.size w w'):z1Y w' z v ps:=h.since (.of_below k)
theorem z1p.kept {w w':World} {z:Nat} {v:Value} {pss:List (List zk)} (h:z1p w z v pss) (k:Below w.heap.size w w'):z1p w' z v pss:=h.since (.of_below k)
theorem z1Y.base {w:World} {z z':Nat} {v:Value} {ps:List zk} (h:z1Y w z v ps) (hz:z'<=z):z1Y w z' v ps:=At.mono h lR hz (λ_ _ _ _ _ _ he=>he)
theorem z1p.base {w:World} {z z':Nat} {v:Value} {pss:List (List zk)} (h:z1p w z v pss) (hz:z'<=z):z1p w z' v pss:=At.mono h lR hz (λ_ _ _ _ _ _ ⟨u,h1,h2⟩=>⟨u,h1,h2.base hz⟩)
theorem z1p.get {w:World} {z:Nat} {v:Value} {pss:List (List zk)} (h:z1p w z v pss) {i:Nat} (hi:i < pss.length):∃ b off cap u,v=.slice (some ⟨b,off,none⟩) pss.length cap/\pss.length<=cap/\cap<=maxLen/\b < w.heap.size/\w.cell? ⟨b,off+i,none⟩=some u/\z1Y w z u (pss.getD i []):=by
 obtain ⟨b,off,cap,e,h1,h2,h3,u,h4,h5⟩:=At.get h hi;rw [Nat.mul_one] at h4;exact ⟨b,off,cap,u,e,h1,h2,h3,h4,h5⟩
def pTo (pss:List (List zk)) (k:Nat):Nat:=((pss.take k).map List.length).sum
def zlm (pss:List (List zk)):Nat:=pss.length+pTo pss pss.length
structure Out (B D:Nat) (w w':World):Prop where
 below:Below B w w'
 block:∀ k,D<=k->k < w.heap.size->w'.heap[k]?=w.heap[k]?
theorem Out.refl (B D:Nat) (w:World):Out B D w w:=⟨bR,λ_ _ _=>rfl⟩
theorem Out.set {B D:Nat} {a w:World} (h:Out B D a w) {p:Addr} (h1:B<=p.block) (h2:p.block < D) (v:Value):Out B D a (w.setCell p v) :=
 ⟨h.below.setCell h1 v,λk h3 h4=>(bS (by omega)).trans (h.block k h3 h4)⟩
theorem Out.drewN {B D:Nat} {a w:World} (h:Out B D a w) (n:Nat):Out B D a (w.drewN n):=⟨⟨h.below.os,h.below.tape,h.below.output,h.below.size,h.below.block⟩,h.block⟩
def zA (w:World) (v:Value) (l:List Int):Prop :=
 ∃ (a:Option Addr) (cap:Nat),v=.slice a l.length cap/\l.length<=cap/\cap<=maxLen/\∀ i,i < l.length->∃ b off,a=some ⟨b,off,none⟩/\b < w.heap.size/\w.cell? ⟨b,off+i,none⟩=some (int i64 (l.getD i 0))
theorem zA.form {w:World} {v:Value} {l:List Int} (h:zA w v l):∃ a cap,v=.slice a l.length cap/\l.length<=9223372036854775807:=by
 obtain ⟨a,cap,hv,h1,h2,_⟩:=h;unfold maxLen at h2;exact ⟨a,cap,hv,by omega⟩
theorem zA.get {w:World} {v:Value} {l:List Int} (h:zA w v l) {i:Nat} (hi:i < l.length) :
  ∃ b off cap,v=.slice (some ⟨b,off,none⟩) l.length cap/\l.length<=cap/\cap<=maxLen/\b < w.heap.size/\w.cell? ⟨b,off+i,none⟩=some (int i64 (l.getD i 0)):=by
 obtain ⟨a,cap,hv,h1,h2,h3⟩:=h;obtain ⟨b,off,rfl,h4,h5⟩:=h3 i hi;exact ⟨b,off,cap,hv,h1,h2,h4,h5⟩
theorem zA.kept {w w':World} {v:Value} {l:List Int} (h:zA w v l) (k:Below w.heap.size w w'):zA w' v l:=by
 obtain ⟨a,cap,hv,h1,h2,h3⟩:=h;refine ⟨a,cap,hv,h1,h2,λi hi=>?_⟩;obtain ⟨b,off,h4,h5,h6⟩:=h3 i hi;exact ⟨b,off,h4,nL h5 k.size,(k.cell (p:=⟨b,off+i,none⟩) h5).trans h6⟩
def zq (w:World) (B D:Nat) (v:Value) (l:List Int):Prop :=
 (v=.slice none 0 0/\l=[])\/∃ g cap cur,v=.slice (some ⟨g,0,none⟩) l.length cap/\B<=g/\g < D/\w.heap[g]?=some (.cells cur 3 (0,0))/\l.length<=cap/\cap<=maxLen/\cur.size=cap/\∀ i,i < l.length->cur[i]?=some (int i64 (l.getD i 0))
theorem zq.of_owns {w:World} {B:Nat} {v:Value} {l:List Int} (h:w.ownsRow B 3 1 v l.length (l.map (Value.int .i64))):zq w B w.heap.size v l:=by
 rcases h.2 with ⟨hv,h0⟩ | ⟨g,cap,cur,hv,hb,hg,h1,h2,h3,h4⟩
 ·exact .inl ⟨hv,List.eq_nil_of_length_eq_zero h0⟩
 ·refine .inr ⟨g,cap,cur,hv,hb,(bL hg),hg,h1,h2,by omega,λi hi=>?_⟩;have:cur.toList[i]?=(l.map (Value.int .i64))[i]?:=(by rw [<-h4,List.getElem?_take_of_lt (by omega)]);rw [<-Array.getElem?_toList,this];simp [List.getD,hi]
theorem zq.owns {w:World} {B D:Nat} {v:Value} {l:List Int} (h:zq w B D v l):w.ownsRow B 3 1 v l.length (l.map (Value.int .i64)):=by
 refine ⟨by simp,?_⟩
 rcases h with ⟨hv,rfl⟩ | ⟨g,cap,cur,hv,hb,hd,hg,h1,h2,h3,h4⟩
 ·exact .inl ⟨hv,rfl⟩
 ·refine .inr ⟨g,cap,cur,hv,hb,hg,h1,h2,by omega,?_⟩;apply List.ext_getElem?;intro i;by_cases hi:i < l.length
  ·rw [List.getElem?_take_of_lt (by omega),Array.getElem?_toList,h4 i hi];simp [List.getD,hi]
  ·rw [List.getElem?_eq_none (by simp;omega),List.getElem?_eq_none (by simp;omega)]
theorem zq.at {w:World} {B D:Nat} {v:Value} {l:List Int} (h:zq w B D v l):zA w v l:=by
 rcases h with ⟨rfl,rfl⟩ | ⟨g,cap,cur,hv,hb,hd,hg,h1,h2,h3,h4⟩
 ·exact ⟨none,0,rfl,lR,nZ,λi hi=>absurd hi (Nat.not_lt_zero _)⟩
 ·exact ⟨_,cap,hv,h1,h2,λi hi=>⟨g,0,rfl,(bL hg),by rw [Nat.zero_add];exact (zf hg).trans (h4 i hi)⟩⟩
theorem zq.kept {w w':World} {B D:Nat} {v:Value} {l:List Int} (h:zq w B D v l) (k:∀ j,j < w.heap.size->B<=j->j < D->w'.heap[j]?=w.heap[j]?):zq w' B D v l:=by
 rcases h with h | ⟨g,cap,cur,hv,hb,hd,hg,r⟩
 ·exact .inl h
 ·exact .inr ⟨g,cap,cur,hv,hb,hd,(k g (bL hg) hb hd).trans hg,r⟩
theorem zq.below {w w':World} {B D C:Nat} {v:Value} {l:List Int} (h:zq w B D v l) (k:Below C w w') (hC:D<=C):zq w' B D v l :=
 h.kept (λj _ _ h2=>k.block j (nL h2 hC))
theorem zq.base {w:World} {B B' D D':Nat} {v:Value} {l:List Int} (h:zq w B D v l) (hB:B'<=B) (hD:D<=D'):zq w B' D' v l:=by
 rcases h with h | ⟨g,cap,cur,hv,hb,hd,r⟩
 ·exact .inl h
 ·exact .inr ⟨g,cap,cur,hv,nT hB hb,nL hd hD,r⟩
theorem zq.form {w:World} {B D:Nat} {v:Value} {l:List Int} (h:zq w B D v l):∃ a cap,v=.slice a l.length cap:=by
 rcases h with ⟨rfl,rfl⟩ | ⟨g,cap,cur,hv,_⟩
 ·exact ⟨none,0,rfl⟩
 ·exact ⟨_,_,hv⟩
theorem zq.get {w:World} {B D:Nat} {v:Value} {l:List Int} (h:zq w B D v l) {i:Nat} (hi:i < l.length) :
  ∃ g cap,v=.slice (some ⟨g,0,none⟩) l.length cap/\B<=g/\g < D/\g < w.heap.size/\l.length<=cap/\cap<=maxLen/\w.cell? ⟨g,i,none⟩=some (int i64 (l.getD i 0))/\w.frozen? ⟨g,i,none⟩=false:=by
 rcases h with ⟨_,rfl⟩ | ⟨g,cap,cur,hv,hb,hd,hg,h1,h2,h3,h4⟩
 ·cases hi
 ·exact ⟨g,cap,hv,hb,hd,(bL hg),h1,h2,(zf hg).trans (h4 i hi),zS hg⟩
theorem zq.set {w:World} {B D g cap n:Nat} {l:List Int} (h:zq w B D (.slice (some ⟨g,0,none⟩) n cap) l) {i:Nat} (hi:i < l.length) (x:Int):zq (w.setCell ⟨g,i,none⟩ (int i64 x)) B D (.slice (some ⟨g,0,none⟩) n cap) (l.set i x):=by
 rcases h with ⟨hv,_⟩ | ⟨g',cap',cur,hv,hb,hd,hg,h1,h2,h3,h4⟩
 ·simp at hv
 ·simp only [Value.slice.injEq,Option.some.injEq,Addr.mk.injEq,and_true] at hv;obtain ⟨rfl,rfl,rfl⟩:=hv;refine .inr ⟨g,cap,cur.setIfInBounds i (int i64 x),by simp,hb,hd,z0s hg _,by simpa using h1,h2,by simpa using h3,λj hj=>?_⟩;rw [List.length_set] at hj;by_cases e:i=j
  ·subst e;simp [List.getD,hj,show i < cur.size by omega]
  ·rw [Array.getElem?_setIfInBounds_ne e,h4 j hj];simp [List.getD,e]
theorem zq.out {w w':World} {B D B' D':Nat} {v:Value} {l:List Int} (h:zq w B D v l) (k:Out B' D' w w') (hd:D<=B'\/D'<=B):zq w' B D v l :=
 h.kept (λj h0 h1 h2=>by rcases hd with hd | hd;exact k.below.block j (by omega);exact k.block j (by omega) h0)
def wtB (n:Int):Bool:=decide (0<=n/\n<=100000)
def zI (t:Int) (l:List Int):Bool:=wtB t && decide (l.length<=100) && l.all wtB
theorem z7X (n:Int):zM n 0 100000=wtB n:=rfl
theorem zhR {l:List Int} {k:Nat} (h:k < l.length) (h1:(l.take k).all wtB=true) (h2:wtB (l.getD k 0)=true):(l.take (k+1)).all wtB=true:=by
 rw [List.take_add_one,List.all_append,h1];simp [List.getD,h] at h2 |-;exact h2
theorem zj9 {l:List Int} {k:Nat} (h:k < l.length) (h2:wtB (l.getD k 0)=false):l.all wtB=false:=by
 rw [List.all_eq_false];refine ⟨l[k],List.getElem_mem h,?_⟩;simp [List.getD,h] at h2;simp [h2]
theorem z2P {l:List Int} (h:l.all wtB=true) {i:Nat} (hi:i < l.length):0<=l.getD i 0/\l.getD i 0<=100000:=by
 have:=List.all_eq_true.1 h (l[i]) (List.getElem_mem hi);simp [wtB] at this
 simpa [List.getD,hi] using this
def zK (l:List Int) (k:Nat):Int:=(l.take k).sum
theorem z1w {l:List Int} {k:Nat} (h:k < l.length):zK l (k+1)=zK l k+l.getD k 0:=by
 rw [zK,List.take_add_one,List.sum_append,zK];simp [List.getD,h]
theorem z1t (l:List Int):zK l l.length=l.sum:=by rw [zK,List.take_length]
theorem z3E {l:List Int} (h:l.all wtB=true):∀ k,k<=l.length->0<=zK l k/\zK l k<=k * 100000
 | 0,_=>by simp [zK]
 | k+1,hk=>by
  have h1:=z3E h k (by omega);have h2:=z2P h (i:=k) (by omega);rw [z1w (by omega)];omega
theorem z2G {l:List Int} (h:l.all wtB=true):0<=l.sum/\l.sum<=l.length * 100000:=by
 have:=z3E h l.length lR
 rwa [z1t] at this
theorem z0d {t:Int} {l:List Int} (h:zI t l=true):(0<=t/\t<=100000)/\l.length<=100/\l.all wtB=true:=by
 simp only [zI,Bool.and_eq_true,decide_eq_true_eq] at h;obtain ⟨⟨h1,h2⟩,h3⟩:=h;simp only [wtB,decide_eq_true_eq] at h1;exact ⟨h1,h2,h3⟩
theorem z6R (n:Int):wrap64 n=(n+9223372036854775808) % 18446744073709551616 - 9223372036854775808:=by unfold wrap64;rfl
theorem z9E (a b:Int):wrap64 (wrap64 a+b)=wrap64 (a+b):=by simp only [z6R];omega
theorem zfT (a b:Int):wrap64 (a+wrap64 b)=wrap64 (a+b):=by simp only [z6R];omega
theorem zk2 (a b:Int):wrap64 (wrap64 a - b)=wrap64 (a - b):=by simp only [z6R];omega
theorem z32 {a:Int} (h:-9223372036854775808<=a/\a<=9223372036854775807):wrap64 a=a:=by rw [z6R];omega
theorem zhS (a:Int):-9223372036854775808<=wrap64 a/\wrap64 a<=9223372036854775807:=by rw [z6R];omega
def zfU (l:List Int) (col:Int):Nat:=(min (max col 0) l.length).toNat
def atV (l:List Int) (gap col:Int):Int:=wrap64 (zK l (zfU l col)+gap * (zfU l col:Nat))
def zln (l:List Int) (gap col:Int):Int:=if zM col 0 (l.length - 1)=true then wrap64 (atV l gap col+l.getD col.toNat 0) else 0
def z2v (l:List Int) (p:Nat->Bool):Nat->List Int
 | 0=>[]
 | k+1=>if p k=true then z2v l p k ++ [l.getD k 0] else z2v l p k
theorem zcl (l:List Int) (p:Nat->Bool):∀ k,(z2v l p k).length<=k
 | 0=>lR
 | k+1=>by
  have:=zcl l p k;unfold z2v
  split
  ·rw [List.length_append,List.length_singleton];omega
  ·omega
def z1P (xs:List Int) (gap:Int):Int:=if xs.length=0 then 0 else wrap64 (xs.sum+gap * ((xs.length:Int) - 1))
theorem zcm {xs:List Int} (h:xs.length=0) (gap:Int):z1P xs gap=0:=by unfold z1P;rw [if_pos h]
theorem z3k {xs:List Int} (h:xs.length ≠ 0) (gap:Int):z1P xs gap=wrap64 (xs.sum+gap * ((xs.length:Int) - 1)):=by unfold z1P;rw [if_neg h]
theorem zeT (xs:List Int) (h:xs.length=0) (gap x:Int):z1P (xs ++ [x]) gap=wrap64 (z1P xs gap+x):=by
 obtain rfl:xs=[]:=List.eq_nil_of_length_eq_zero h;rw [zcm h,z3k (by simp)];simp
theorem zfV (xs:List Int) (h:xs.length ≠ 0) (gap x:Int):z1P (xs ++ [x]) gap=wrap64 (wrap64 (z1P xs gap+gap)+x):=by
 rw [z3k h,z3k (by simp),z9E,List.sum_append,List.length_append,List.length_singleton]
 have e:gap * (((xs.length+1:Nat):Int) - 1)=gap * ((xs.length:Int) - 1)+gap:=by
  rw [show (((xs.length+1:Nat):Int) - 1)=((xs.length:Int) - 1)+1 by omega,Int.mul_add,Int.mul_one]
 rw [e];simp only [List.sum_cons,List.sum_nil];generalize gap * ((xs.length:Int) - 1)=y;generalize xs.sum=z;simp only [z6R];omega
theorem zA.take {w:World} {a:Option Addr} {n cap:Nat} {l:List Int} (h:zA w (.slice a n cap) l) {m:Nat} (hm:m<=l.length):zA w (.slice a m cap) (l.take m):=by
 obtain ⟨a',cap',hv,h1,h2,h3⟩:=h;simp only [Value.slice.injEq] at hv;obtain ⟨rfl,rfl,rfl⟩:=hv;have hl:(l.take m).length=m:=(by rw [List.length_take];omega);refine ⟨a,cap,by rw [hl],by omega,h2,λi hi=>?_⟩;rw [hl] at hi;obtain ⟨b,off,h4,h5,h6⟩:=h3 i (by omega);refine ⟨b,off,h4,h5,?_⟩;rw [h6];simp [List.getD,hi]
def z3I (ps:List zk):Nat->Int
 | 0=>0
 | k+1=>z3I ps k+((ps.getD k dP).t - (ps.getD k dP).f)
def z7f (ps:List zk):Int:=wrap64 (z3I ps ps.length)
theorem zja (ps:List zk) (k:Nat):wrap64 (wrap64 (z3I ps k)+wrap64 ((ps.getD k dP).t - (ps.getD k dP).f))=wrap64 (z3I ps (k+1)):=by rw [z9E,zfT,z3I]
theorem zjb (ps:List zk) (k:Nat):wrap64 (wrap64 (wrap64 (z3I ps k)+(ps.getD k dP).t) - (ps.getD k dP).f)=wrap64 (z3I ps (k+1)):=by rw [zk2,z3I];simp only [z6R];omega
def rwP (ps:List zk) (row:Int):Nat->Int
 | 0=>0
 | k+1=>if (ps.getD k dP).r=row then rwP ps row k+((ps.getD k dP).t - (ps.getD k dP).f) else rwP ps row k
def zk3 (pss:List (List zk)) (row:Int):Nat->Int
 | 0=>0
 | k+1=>zk3 pss row k+rwP (pss.getD k []) row (pss.getD k []).length
def zlo (pss:List (List zk)) (row:Int):Int:=wrap64 (zk3 pss row pss.length)
def zkW (row:Int) (ps:List zk):Bool:=ps.any (λx=>x.r == row)
def zlc (pss:List (List zk)) (row:Int):Int:=match pss.findIdx? (zkW row) with | some k=>(k:Int) | none=>-1
def zu (ps:List zk):Int:=(ps.map λs=>s.t - s.f).sum
theorem zen:zu []=0:=rfl
theorem z1D (a b:List zk):zu (a ++ b)=zu a+zu b:=by simp [zu]
theorem z3b (s:zk):zu [s]=s.t - s.f:=by simp [zu]
def z2o (page:List zk) (s:zk):List zk:=match page.getLast? with
 | none=>[s]
 | some l=>if l.r=s.r then page.dropLast ++ [⟨l.r,l.f,s.t⟩] else page ++ [s]
def z0b (page piece:List zk):List zk:=piece.foldl z2o page
def zN (rm:List Int) (k:Nat):Int:=rm.getD (min k (rm.length - 1)) 0
def z1a (page piece:List zk) (room:Int):Bool:=page.isEmpty || decide (zu page+zu piece<=room)
def z00 (rm:List Int) (st:List (List zk) × List zk) (piece:List zk):List (List zk) × List zk :=
 if z1a st.2 piece (zN rm st.1.length) then (st.1,z0b st.2 piece) else (st.1 ++ [st.2],z0b [] piece)
def z3c (rm:List Int) (pieces:List (List zk)):List (List zk) :=
 let st:=pieces.foldl (z00 rm) ([],[])
 st.1 ++ [st.2]
def z0o (r:Int) (f:Int) (n:Nat):List (List zk):=(List.range n).map λk:Nat=>[⟨r,f+k,f+k+1⟩]
theorem z4u (r f:Int) (n:Nat):z0o r f (n+1)=[⟨r,f,f+1⟩] :: z0o r (f+1) n:=by
 unfold z0o;rw [List.range_succ_eq_map];simp only [List.map_cons,List.map_map]
 congr 1
 ·simp
 ·refine List.map_congr_left λk _=>?_;simp only [Function.comp]
  congr 2 <;> omega
theorem zcn (rm:List Int) (r:Int):∀ (n:Nat) (pgs:List (List zk)) (page:List zk) (f0 f:Int),(n:Int)<=zN rm pgs.length - zu (page ++ [⟨r,f0,f⟩]) ->
  (z0o r f n).foldl (z00 rm) (pgs,page ++ [⟨r,f0,f⟩])=(pgs,page ++ [⟨r,f0,f+n⟩])
 | 0,pgs,page,f0,f,_=>by simp [z0o]
 | n+1,pgs,page,f0,f,h=>by
  rw [z4u,List.foldl_cons]
  have e:z00 rm (pgs,page ++ [⟨r,f0,f⟩]) [⟨r,f,f+1⟩]=(pgs,page ++ [⟨r,f0,f+1⟩]):=by
   unfold z00 z1a;rw [if_pos (by simp only [Bool.or_eq_true,decide_eq_true_eq];right;rw [z3b];simp only;omega)];simp [z0b,z2o]
  rw [e]
  have ih:=zcn rm r n pgs page f0 (f+1) (by
   rw [z1D,z3b] at h |-;simp only at h |-
   omega)
  rw [ih];have:f+1+(n:Int)=f+((n+1:Nat):Int):=(by omega);rw [this]
theorem z7Y {rm:List Int} {pgs:List (List zk)} {page piece:List zk} (h:z1a page piece (zN rm pgs.length)=true):z00 rm (pgs,page) piece=(pgs,z0b page piece):=by
 unfold z00;rw [if_pos h]
theorem zfW {rm:List Int} {pgs:List (List zk)} {page piece:List zk} (h:z1a page piece (zN rm pgs.length)=false):z00 rm (pgs,page) piece=z00 rm (pgs ++ [page],[]) piece:=by
 unfold z00;rw [if_neg (by simp only;rw [h];simp),if_pos (by simp [z1a])]
theorem zbb {rm:List Int} {pgs:List (List zk)} {page piece:List zk} {l:List (List zk)} (h:z1a page piece (zN rm pgs.length)=false):(piece :: l).foldl (z00 rm) (pgs,page)=(piece :: l).foldl (z00 rm) (pgs ++ [page],[]):=by
 rw [List.foldl_cons,List.foldl_cons,zfW h]
theorem zhT {rm:List Int} {r f:Int} {n:Nat} (hn:0 < n) {pgs:List (List zk)} {page:List zk} (hp:page ≠ []) (hf:zN rm pgs.length - zu page<=0) :
  (z0o r f n).foldl (z00 rm) (pgs,page)=(z0o r f n).foldl (z00 rm) (pgs ++ [page],[]):=by
 obtain ⟨m,rfl⟩:=Nat.exists_eq_succ_of_ne_zero (Nat.pos_iff_ne_zero.1 hn);rw [z4u];refine zbb ?_;unfold z1a;rw [Bool.or_eq_false_iff];refine ⟨by cases page with | nil=>exact absurd rfl hp | cons a l=>rfl,decide_eq_false ?_⟩;rw [z3b];simp only;omega
def z69 (page:List zk) (r:Int):Prop:=∀ l,page.getLast?=some l->l.r ≠ r
theorem z9j {page:List zk} {s:zk} (h:z69 page s.r):z2o page s=page ++ [s]:=by
 unfold z2o
 split
 ·rename_i e
  rw [List.getLast?_eq_none_iff] at e;rw [e];rfl
 ·rename_i l e
  rw [if_neg (h l e)]
theorem zeU (r f:Int) (a b:Nat):z0o r f (a+b)=z0o r f a ++ z0o r (f+a) b:=by
 unfold z0o;rw [List.range_add,List.map_append,List.map_map]
 congr 1
 refine List.map_congr_left λk _=>?_;simp only [Function.comp]
 congr 2 <;> omega
theorem zk4 {rm:List Int} {r f:Int} {n k:Nat} (hk:0 < k) (hkn:k<=n) {pgs:List (List zk)} {page:List zk} (hl:z69 page r) (hf:page=[]\/0 < zN rm pgs.length - zu page)
  (hr:(k:Int)<=max 1 (zN rm pgs.length - zu page)) :
  (z0o r f n).foldl (z00 rm) (pgs,page)=(z0o r (f+k) (n - k)).foldl (z00 rm) (pgs,page ++ [⟨r,f,f+k⟩]):=by
 obtain ⟨m,rfl⟩:=Nat.exists_eq_succ_of_ne_zero (Nat.pos_iff_ne_zero.1 hk);obtain ⟨q,rfl⟩:=Nat.exists_eq_add_of_le hkn;have e1:m.succ+q - m.succ=q:=(by omega);rw [e1,zeU,List.foldl_append]
 congr 1
 rw [Nat.succ_eq_add_one,z4u,List.foldl_cons]
 have e:z00 rm (pgs,page) [⟨r,f,f+1⟩]=(pgs,page ++ [⟨r,f,f+1⟩]):=by
  rw [z7Y]
  ·unfold z0b;rw [List.foldl_cons,List.foldl_nil,z9j hl]
  ·unfold z1a
   rcases hf with rfl | hf
   ·rfl
   ·rw [Bool.or_eq_true]
    right
    rw [z3b];simp only;exact decide_eq_true (by omega)
 rw [e]
 cases m with
 | zero=>simp [z0o]
 | succ m =>
  rw [zcn rm r (m+1) pgs page f (f+1) (by
   rw [z1D,z3b];simp only
   omega)]
  congr 4
  omega
def zT (hs:List Int) (a:Nat):Nat->List zk
 | 0=>[]
 | n+1=>⟨(a:Int),0,hs.getD a 0⟩ :: zT hs (a+1) n
theorem z6S (hs:List Int):∀ (n a:Nat),zT hs a (n+1)=zT hs a n ++ [⟨((a+n:Nat):Int),0,hs.getD (a+n) 0⟩]
 | 0,a=>by simp [zT]
 | n+1,a=>by
  rw [zT,z6S hs n (a+1),zT];have:a+1+n=a+(n+1):=(by omega);rw [this];rfl
theorem z1b (hs:List Int):∀ (n a:Nat),(zT hs a n).length=n
 | 0,_=>rfl
 | n+1,a=>by rw [zT,List.length_cons,z1b hs n]
def z3r (page:List zk) (r:Nat):Prop:=∀ s ∈ page,s.r < r
theorem z3r.last {page:List zk} {r:Nat} (h:z3r page r):z69 page r:=λl hl=>by
 have:=h l (List.mem_of_getLast? hl);omega
theorem z7g (hs:List Int):∀ (n a:Nat) (page:List zk),z3r page a->z0b page (zT hs a n)=page ++ zT hs a n/\z3r (page ++ zT hs a n) (a+n)
 | 0,a,page,h=>by simp [z0b,zT];exact h
 | n+1,a,page,h=>by
  have h1:z3r (page ++ [⟨(a:Int),0,hs.getD a 0⟩]) (a+1):=by
   intro s hs'
   rcases List.mem_append.1 hs' with hm | hm
   ·have:=h s hm;omega
   ·rw [List.mem_singleton.1 hm];simp only;omega
  obtain ⟨i1,i2⟩:=z7g hs n (a+1) _ h1;unfold z0b at i1 |-;rw [zT,List.foldl_cons,z9j (by exact h.last)];rw [List.append_assoc,List.singleton_append] at i1 i2;refine ⟨i1,?_⟩;have:a+1+n=a+(n+1):=(by omega)
  rwa [this] at i2
def z0y (s:zk):List Value:=[int i64 s.r,int i64 s.f,int i64 s.t]
def zx (w:World) (base:Nat) (v:Value) (ps:List zk):Prop:=w.ownsRow base 45 3 v ps.length (ps.flatMap z0y)
theorem zx.at {w:World} {base:Nat} {v:Value} {ps:List zk} (h:zx w base v ps):z1Y w base v ps:=by
 rcases h.2 with ⟨rfl,hn⟩ | ⟨g,cap,cur,rfl,hg,hc,h1,h2,_⟩
 ·exact ⟨none,0,by rw [hn],by omega,by unfold maxLen;omega,λi hi=>by omega⟩
 ·refine ⟨_,cap,rfl,h1,h2,λi hi=>⟨g,0,rfl,(bL hc),hg,?_⟩⟩
  have hx:∀ j,j < 3->w.cell? ⟨g,i * 3+j,none⟩=(z0y ps[i])[j]?:=λj hj=>by
   have e:=z3M z0y 3 (λ_=>rfl) ps i hi j hj;rw [z4F h (u:=(z0y ps[i])[j]'(by show j < 3;exact hj)) (by rw [e];simp)];simp
  have e1:ps.getD i dP=ps[i]:=(by simp [List.getD,hi]);show PIs w g (0+i * 3) (ps.getD i dP);rw [e1,Nat.zero_add];exact ⟨hx 0 (by omega),hx 1 (by omega),hx 2 (by omega)⟩
theorem z7Z:(prog.info? 45).map (λi=>(i.zero,i.size,i.bytes))=some (some (Value.agg #[int i64 0,int i64 0,int i64 0]),3,24):=by kernel_rfl
theorem z5i:(prog.info? 41).map (λi=>(i.zero,i.size,i.bytes))=some (some (Value.slice none 0 0),1,24):=by kernel_rfl
theorem zx.next {w:World} {base:Nat} {v:Value} {ps:List zk} {s:zk} (h:w.ownsRow base 45 3 v (ps.length+1) (ps.flatMap z0y ++ [int i64 s.r,int i64 s.f,int i64 s.t])):zx w base v (ps ++ [s]):=by
 unfold zx;rw [List.length_append,List.flatMap_append]
 simpa [z0y] using h
theorem zx.kept {w w':World} {base:Nat} {v:Value} {ps:List zk} (h:zx w base v ps) (hb:Below w.heap.size w w'):zx w' base v ps :=
 ⟨h.1,h.2.elim Or.inl (λ⟨g,cap,cur,hv,hg,hc,r⟩=>Or.inr ⟨g,cap,cur,hv,hg,(hb.block g (bL hc)).trans hc,r⟩)⟩
theorem zx.nil (w:World) (base:Nat):zx w base (.slice none 0 0) []:=⟨rfl,.inl ⟨rfl,rfl⟩⟩
theorem zx.form {w:World} {base:Nat} {v:Value} {ps:List zk} (h:zx w base v ps):∃ a cap,v=.slice a ps.length cap:=by
 rcases h.2 with ⟨hv,h0⟩ | ⟨g,cap,cur,hv,_⟩
 ·exact ⟨none,0,by rw [h0];exact hv⟩
 ·exact ⟨_,_,hv⟩
theorem zx.base {w:World} {base base':Nat} {v:Value} {ps:List zk} (h:zx w base v ps) (hb:base'<=base):zx w base' v ps :=
 ⟨h.1,h.2.elim Or.inl (λ⟨g,cap,cur,hv,hg,r⟩=>Or.inr ⟨g,cap,cur,hv,nT hb hg,r⟩)⟩
theorem z7P (hs:List Int) (a n:Nat) (hn:a+n<=hs.length) (hl:hs.length<=1000) (v:Value) (w:World) (h:zA w v hs) :
  Calls prog 65 #[v,int i64 (a:Int),int i64 ((a:Int)+(n:Int))] w λe w'=>∃ u,e=.returned u/\zx w' w.heap.size u (zT hs a n)/\Below w.heap.size w w':=by
 obtain ⟨i0,hi0,hz0,hz1,hz2⟩:=info_parts z7Z;obtain ⟨av,cv,rfl,_⟩:=h.form;have H:=O h;clear h;go_enter func65,ntmps65;go_wp2_with fail
 go_loopw [7,8] (λo i W=>∃ k:Nat,k<=n/\i=int i64 ((a:Int)+(k:Int))/\Hid (zx W w.heap.size o (zT hs a k))/\Hid (Below w.heap.size w W)) (λ_ i _=>a+n - (intOf i).toNat)
 case atStart=>exact ⟨0,nZ,by simp,zx.nil _ _,bR⟩
 case round =>
  obtain ⟨k,hk,rfl,HO,HB⟩:=hrel;obtain ⟨ao,co,rfl⟩:=HO.out.form;rw [z1b] at HO |-;by_cases hlt:k < n
  case neg =>
   obtain rfl:k=n:=by omega
   go_wp2;go_ret;exact ⟨_,rfl,HO.out,HB.out⟩
  obtain ⟨b,off,cap',e',hc1,hc2,hbl,hx⟩:=(H.out.kept HB.out).get (i:=a+k) (by omega);simp only [Value.slice.injEq,true_and] at e';obtain ⟨rfl,rfl⟩:=e';unfold maxLen at hc2;have HE:=O (z6S hs k a);have hlw:=z1b hs k a;have hO:=HO.out;unfold zx at hO;rw [hlw] at hO;have hsz:=HB.out.size;generalize hs.getD (a+k) 0=y at hx HE;generalize zT hs a k=ps at HO HE hlw hO;go_wp2_with (at_builtin;refine wpList_append_own _ rfl _ _ 41 rfl w.heap.size 45 i0 _ 3 24 underlying41 hi0 hz0 hz1 hz2 rfl (by decide) _ _ _ rfl (hO.alloc _) ⟨wr.heap.size,0,none⟩ 1 1 (z0y ⟨(a:Int)+(k:Int),0,y⟩) rfl rfl ?c1 ?c2 ?c3 ?c4 ?c5 ?_)
  case c1=>exact z0K (zj wr _)
  case c2=>simp [z0y,Value.oneCell']
  case c3=>unfold maxLen;omega
  case c4=>omega
  case c5=>simp;omega
  intro v' w2 hown' hgrow' _;have HB2:=O ((ze HB.out (.cells #[int i64 ((a:Int)+(k:Int)),int i64 0,int i64 y] 45)).grown hgrow' (by simp;omega) (λb hb=>(hO.lt b hb).1))
  have HO2:Hid (zx w2 w.heap.size v' (zT hs a (k+1))):=by
   show zx _ _ _ _;rw [HE.out,Int.natCast_add];exact zx.next (by rw [hlw];exact hown')
  obtain ⟨g',cap',rfl⟩:=Joins.ownsRow_form hown' (by omega);clear hown' hgrow' hO HO HB hx hlw;go_wp2;go_roundw
  case rel=>exact ⟨k+1,by omega,by go_num,HO2,HB2⟩
  case measure=>simp [intOf];omega
theorem z3O {w:World} {base base':Nat} {e:TypeId} {sz:Nat} {v:Value} {m:Nat} {xs:List Value} (h:w.ownsRow base e sz v m xs) (hb:base'<=base):w.ownsRow base' e sz v m xs :=
 ⟨h.1,h.2.elim Or.inl (λ⟨g,cap,cur,hv,hg,r⟩=>Or.inr ⟨g,cap,cur,hv,nT hb hg,r⟩)⟩
theorem zx.grown {w w':World} {B base:Nat} {v U:Value} {l:List zk} {m:Nat} {xs:List Value} (h:zx w B v l) (hU:w.ownsRow base 41 1 U m xs) (k:w.grownBy w' U.ownBlock):zx w' B v l :=
 ⟨h.1,h.2.elim Or.inl (λ⟨g,cap,cur,hv,hg,hc,r⟩=>Or.inr ⟨g,cap,cur,hv,hg,z06 hc k (z0e (zt hU hc (by decide))),r⟩)⟩
def zO (w:World) (B:Nat) (us:List Value) (ls:List (List zk)):Prop:=us.length=ls.length/\∀ i,i < ls.length->zx w B (us.getD i (.slice none 0 0)) (ls.getD i [])
theorem zO.nil (w:World) (B:Nat):zO w B [] []:=⟨rfl,λi hi=>absurd hi (Nat.not_lt_zero i)⟩
theorem zO.kept {w w':World} {B:Nat} {us:List Value} {ls:List (List zk)} (h:zO w B us ls) (k:Below w.heap.size w w'):zO w' B us ls:=⟨h.1,λi hi=>(h.2 i hi).kept k⟩
theorem zO.base {w:World} {B B':Nat} {us:List Value} {ls:List (List zk)} (h:zO w B us ls) (k:B'<=B):zO w B' us ls:=⟨h.1,λi hi=>(h.2 i hi).base k⟩
theorem zO.grown {w w':World} {B base:Nat} {U:Value} {us:List Value} {ls:List (List zk)} {m:Nat} {xs:List Value} (h:zO w B us ls) (hU:w.ownsRow base 41 1 U m xs) (k:w.grownBy w' U.ownBlock):zO w' B us ls:=⟨h.1,λi hi=>(h.2 i hi).grown hU k⟩
theorem zO.app {w:World} {B:Nat} {us us':List Value} {ls ls':List (List zk)} (h:zO w B us ls) (h':zO w B us' ls'):zO w B (us ++ us') (ls ++ ls'):=by
 refine ⟨by rw [List.length_append,List.length_append,h.1,h'.1],λi hi=>?_⟩;rw [List.length_append] at hi
 rcases Nat.lt_or_ge i ls.length with h1 | h1
 ·have e1:(us ++ us').getD i (.slice none 0 0)=us.getD i (.slice none 0 0):=by
   rw [List.getD_eq_getElem?_getD,List.getElem?_append_left (by rw [h.1];exact h1),<-List.getD_eq_getElem?_getD]
  have e2:(ls ++ ls').getD i []=ls.getD i []:=by
   rw [List.getD_eq_getElem?_getD,List.getElem?_append_left h1,<-List.getD_eq_getElem?_getD]
  rw [e1,e2];exact h.2 i h1
 ·have e1:(us ++ us').getD i (.slice none 0 0)=us'.getD (i - ls.length) (.slice none 0 0):=by
   rw [List.getD_eq_getElem?_getD,List.getElem?_append_right (by rw [h.1];exact h1),h.1,<-List.getD_eq_getElem?_getD]
  have e2:(ls ++ ls').getD i []=ls'.getD (i - ls.length) []:=by
   rw [List.getD_eq_getElem?_getD,List.getElem?_append_right h1,<-List.getD_eq_getElem?_getD]
  rw [e1,e2];exact h'.2 _ (by omega)
theorem zO.one {w:World} {B:Nat} {u:Value} {l:List zk} (h:zx w B u l):zO w B [u] [l]:=by
 refine ⟨rfl,λi hi=>?_⟩;have:i=0:=(by simpa using hi);subst this;exact h
theorem zO.pss {w:World} {B base z:Nat} {v:Value} {us:List Value} {ls:List (List zk)} (h:zO w B us ls) (hO:w.ownsRow base 41 1 v us.length us) (hz:z<=base) (hzB:z<=B):z1p w z v ls:=by
 unfold z1p;have hul:=h.1
 rcases hO.2 with ⟨hv,h0⟩ | ⟨g,cap,cur,hv,hb,hg,h1,h2,h3,h4⟩
 ·exact ⟨none,0,by rw [<-hul,h0];exact hv,by omega,nZ,λi hi=>by omega⟩
 ·refine ⟨some ⟨g,0,none⟩,cap,by rw [<-hul];exact hv,by omega,h2,λi hi=>⟨g,0,rfl,(bL hg),by omega,us.getD i (.slice none 0 0),?_,(h.2 i hi).at.base hzB⟩⟩;have:cur.toList[i]?=us[i]?:=(by rw [<-h4,List.getElem?_take_of_lt (by omega)]);rw [Nat.zero_add,Nat.mul_one,zf hg,<-Array.getElem?_toList,this];simp [List.getD,show i < us.length by omega]
theorem zdP (r f:Int) (k:Nat):z0o r f (k+1)=z0o r f k ++ [[⟨r,f+k,f+k+1⟩]]:=by simp [z0o,List.range_succ]
theorem zeX (r f:Int) (k:Nat):(z0o r f k).length=k:=by simp [z0o]
theorem zjd (w:World) (B:Nat) (hB:B<=w.heap.size) (s:zk):zx (w.alloc (.cells #[int i64 s.r,int i64 s.f,int i64 s.t] 45)) B (.slice (some ⟨w.heap.size,0,none⟩) 1 1) [s]:=by
 refine ⟨rfl,.inr ⟨w.heap.size,1,#[int i64 s.r,int i64 s.f,int i64 s.t],rfl,hB,zj _ _,lR,by unfold maxLen;omega,rfl,?_⟩⟩;simp [z0y]
theorem zdQ (r:Int) (n:Nat) (hn:n<=100000) (w:World) :
  Calls prog 75 #[.agg #[int i64 r,int i64 0,int i64 (n:Int)]] w λe w'=>∃ v us,e=.returned v/\w'.ownsRow w.heap.size 41 1 v us.length us/\zO w' w.heap.size us (z0o r 0 n)/\Below w.heap.size w w':=by
 obtain ⟨i0,hi0,hz0,hz1,hz2⟩:=info_parts z5i;have K0:=O (ze (Below.refl w.heap.size w) (.cells #[int i64 r,int i64 0,int i64 (n:Int)] 45));have X0:=O (zj w (.cells #[int i64 r,int i64 0,int i64 (n:Int)] 45));go_enter func75,ntmps75;go_wp2_with fail
 go_loopw [3,4] (λo i W=>∃ (k:Nat) (us:List Value),k<=n/\i=int i64 (k:Int)/\us.length=k/\Hid (W.ownsRow (w.heap.size+1) 41 1 o k us)/\Hid (zO W (w.heap.size+1) us (z0o r 0 k))/\Hid (Below w.heap.size w W)/\Hid (W.heap[w.heap.size]?=some (.cells #[int i64 r,int i64 0,int i64 (n:Int)] 45))) (λ_ i _=>n - (intOf i).toNat)
 case atStart=>exact ⟨0,[],nZ,rfl,rfl,⟨rfl,.inl ⟨rfl,rfl⟩⟩,zO.nil _ _,K0,X0⟩
 case round =>
  clear K0 X0;obtain ⟨k,us,hk,rfl,hul,HO,HP,HB,HX⟩:=hrel;have c0:wr.cell? ⟨w.heap.size,0,none⟩=some (int i64 r):=zf HX.out;have c1:wr.cell? ⟨w.heap.size,1,none⟩=some (int i64 0):=zf HX.out;have c2:wr.cell? ⟨w.heap.size,2,none⟩=some (int i64 (n:Int)):=zf HX.out;obtain ⟨ao,co,rfl,_⟩:=zP HO.out;have hsz:=(bL HX.out);by_cases hlt:k < n
  case neg =>
   obtain rfl:k=n:=by omega
   have HL:=O hul;clear hul;go_wp2;go_ret;exact ⟨_,us,rfl,by rw [HL.out];exact z3O HO.out (by omega),HP.out.base (by omega),HB.out⟩
  have HE:=O (zdP r 0 k);rw [Int.zero_add] at HE;have hO:=HO.out;have O1:=O (zjd wr (w.heap.size+1) (by omega) ⟨r,(k:Int),(k:Int)+1⟩);have HL:=O hul;clear hul;go_wp2_with (at_builtin;refine wpList_append_own _ rfl _ _ 30 rfl (w.heap.size+1) 41 i0 _ 1 24 underlying30 hi0 hz0 hz1 hz2 rfl (by decide) _ _ _ rfl ((hO.alloc _).alloc _) ⟨wr.heap.size+1,0,none⟩ 1 1 [.slice (some ⟨wr.heap.size,0,none⟩) 1 1] rfl rfl ?c1 ?c2 ?c3 ?c4 ?c5 ?_)
  case c2=>rfl
  case c3=>unfold maxLen;omega
  case c4=>omega
  case c5=>omega
  intro v' w2 hown' hgrow' _;have hOA:=(hO.alloc (.cells #[int i64 r,int i64 (k:Int),int i64 ((k:Int)+1)] 45)).alloc (.cells #[.slice (some ⟨wr.heap.size,0,none⟩) 1 1] 41);have HB2:=O ((ze (ze HB.out (.cells #[int i64 r,int i64 (k:Int),int i64 ((k:Int)+1)] 45)) (.cells #[.slice (some ⟨wr.heap.size,0,none⟩) 1 1] 41)).grown hgrow' (by simp;omega) (λb hb=>by have:=(hO.lt b hb).1;omega));have KA:=ze (ze (Below.refl wr.heap.size wr) (.cells #[int i64 r,int i64 (k:Int),int i64 ((k:Int)+1)] 45)) (.cells #[.slice (some ⟨wr.heap.size,0,none⟩) 1 1] 41);have HX2:=O (z06 ((KA.block _ hsz).trans HX.out) hgrow' (z0e (zt hOA ((KA.block _ hsz).trans HX.out) (by decide))))
  have HP2:Hid (zO w2 (w.heap.size+1) (us ++ [.slice (some ⟨wr.heap.size,0,none⟩) 1 1]) (z0o r 0 (k+1))):=by
   show zO _ _ _ _;rw [HE.out];exact ((HP.out.kept KA).grown hOA hgrow').app (zO.one ((O1.out.kept (ze bR _)).grown hOA hgrow'))
  have HL2:Hid ((us ++ [Value.slice (some ⟨wr.heap.size,0,none⟩) 1 1]).length=k+1):=(by show _=_;rw [List.length_append,HL.out];rfl);have HO2:=O hown';obtain ⟨g',cap',rfl⟩:=Joins.ownsRow_form hown' (by omega);clear hown' hgrow' hO HO HB HP HX hOA KA c0 c1 c2;go_wp2;go_roundw
  case rel=>exact ⟨k+1,_,by omega,by go_num,HL2.out,HO2,HP2,HB2,HX2⟩
  case measure=>simp [intOf];omega
theorem z9H {P:Program} {w:World} (base:Nat) (t ty e:TypeId) (i:TypeInfo) (size c:Nat) (ht:P.underlying t=some (.slice e)) (hi:P.info? e=some i)
  (v:Value) (n:Nat) (xs:List Value) (hown:w.ownsRow base e size v n xs):(Builtin.append_ #[t,t] ty #[v,.slice none 0 c]).run P w=.ok v w:=by
 rcases hown.2 with ⟨rfl,rfl⟩ | ⟨g,cap,cur,rfl,_,_,hnc,_⟩
 ·simp [Builtin.append_,run_underlying ht,sizeOf,typeInfo,hi,Builtin.lenOf,Builtin.firstCells]
 ·simp [Builtin.append_,run_underlying ht,sizeOf,typeInfo,hi,Builtin.lenOf,Builtin.firstCells,hnc,storeCells]
theorem z4y {P:Program} (w:World) {o:Oper} {a:Act} {K:Act->World->Prop} {Q:Exit->Act->World->Prop} (s x:Operand) (t:TypeId)
  (ho:o.op=.call { callee:=.builtin .append,args:=#[s,x],argTypes:=#[t,t] })
  (base:Nat) (e:TypeId) (i:TypeInfo) (z:Value) (size bytes:Nat) (ht:P.underlying t=some (.slice e)) (hi:P.info? e=some i) (hz:i.zero=some z)
  (hsize:i.size=size) (hby:i.bytes=bytes) (hzs:z.cells.size=size) (hsz:0 < size)
  (v:Value) (n:Nat) (xs:List Value) (hs:a.eval s=v) (hown:w.ownsRow base e size v n xs)
  (ad:Option Addr) (m c:Nat) (news:List Value) (hx:a.eval x=.slice ad m c) (hm:m ≠ 0->ad ≠ none) (hl:news.length=m * size) (hnews:∀ p,ad=some p->∀ j u,news[j]?=some u->w.cell? (p.add j)=some u) (h1:∀ u ∈ news,u.oneCell'=true)
  (h63:n+m<=maxLen) (hbytes:(n+m) * bytes<=140737488355328) (hbase:base<=w.heap.size)
  (h:∀ v' w',w'.ownsRow base e size v' (n+m) (xs ++ news)->w.grownBy w' v.ownBlock->K (a.put o.dst v') w'):o.wp P a w K Q:=by
 rcases ad with _ | p
 ·obtain rfl:m=0:=by
   rcases Nat.eq_zero_or_pos m with h0 | h0
   ·exact h0
   ·exact absurd rfl (hm (by omega))
  obtain rfl:news=[]:=List.length_eq_zero_iff.1 (by omega);have hr:=z9H (P:=P) (w:=w) base t o.type e i size c ht hi v n xs hown;unfold Oper.wp execOp;simp only [ho,resolve,invoke,builtin,Sem.run_bind,Sem.run_pure,Result.andThen_ok,List.map_toArray,List.map_cons,List.map_nil,hs,hx,hr];exact h v w (by simpa using hown) ⟨rfl,rfl,rfl,lR,λ_ _ _=>rfl⟩
 ·exact wp_append_own w s x t ho base e i z size bytes ht hi hz hsize hby hzs hsz v n xs hs hown p m c news hx hl (hnews p rfl) h1 h63 hbytes hbase (λv' w' h1 h2 _=>h v' w' h1 h2)
theorem zaH:(prog.info? 45).map (λi=>(i.zero,i.size,i.bytes))=some (some (Value.agg #[int i64 0,int i64 0,int i64 0]),3,24):=by kernel_rfl
theorem zhW (n:Nat) (hn:n<=100000) (w:World) :
  Calls prog 64 #[.slice none 0 0,int i64 (n:Int)] w λe w'=>∃ v,e=.returned v/\zx w' w.heap.size v []/\Below w.heap.size w w':=by
 obtain ⟨i0,hi,hz0,hz1,hz2⟩:=info_parts zaH;have hn0:¬ ((n:Int) < 0):=(by omega);have hw:IntKind.i64.wrap ((n:Int) - 0)=(n:Int):=(by rw [IntKind.wrap_i64];omega);by_cases h0:n=0
 ·subst h0;go_enter func64,ntmps64;go_wp2;go_ret;exact ⟨_,rfl,zx.nil _ _,bR⟩
 ·have hpos:(0:Int) < (n:Int):=(by omega);have hrz:∀ ty,(Builtin.append_ #[41,3] ty #[.slice none 0 0,int i64 (n:Int)]).run prog w=_:=λty=>Lib.run_append_nil_zeros w 41 3 ty 45 i0 _ .i64 .i64 underlying41 underlying3 hi hz0 n (by omega) (by rw [hz1];omega) (by omega) (by rw [hz2];omega);have hG:=grownCap_ge w n 0 45;have hG2:=grownCap_le_maxLen w n 0 45 (by unfold maxLen;omega);generalize grownCap w n 0 45=G at hrz hG hG2
  have hsz:(Builtin.zeroCells (Value.agg #[int i64 0,int i64 0,int i64 0]).cells n ++ Builtin.zeroCells (Value.agg #[int i64 0,int i64 0,int i64 0]).cells (G - n)).size=G * 3:=by
   rw [Array.size_append,size_zeroCells,size_zeroCells];show n * 3+(G - n) * 3=G * 3;omega
  generalize Builtin.zeroCells (Value.agg #[int i64 0,int i64 0,int i64 0]).cells n ++ Builtin.zeroCells (Value.agg #[int i64 0,int i64 0,int i64 0]).cells (G - n)=cur at hrz hsz;have HO:Hid (zx (w.drew.alloc (.cells cur 45)) w.heap.size (.slice (some ⟨w.heap.size,0,none⟩) 0 G) []):=⟨rfl,.inr ⟨w.heap.size,G,cur,rfl,lR,zj w.drew _,nZ,hG2,hsz,by simp⟩⟩;have HK:=O (ze (z0X (Below.refl w.heap.size w)) (.cells cur 45));clear hG hsz;unfold maxLen at hG2;go_enter func64,ntmps64;go_wp2_with (at_builtin;refine Lib.wpList_append_run _ rfl _ _ _ _ rfl _ _ rfl rfl _ _ (hrz _) ?_)
  all_goals
   go_ret;exact ⟨_,rfl,HO.out,HK.out⟩
theorem zaI {w:World} {z:Nat} {p:Addr} {m c:Nat} {ps:List zk} (h:z1Y w z (.slice (some p) m c) ps):∀ j u,(ps.flatMap z0y)[j]?=some u->w.cell? (p.add j)=some u:=by
 intro j u hj
 have hjl:j < ps.length * 3:=by
  have h1:=(List.getElem?_eq_some_iff.1 hj).1;have h2:(ps.flatMap z0y).length=ps.length * 3:=z6g z0y 3 (λ_=>rfl) ps;omega
 obtain ⟨a,cap,hv,_,_,h3⟩:=h;simp only [Value.slice.injEq] at hv;obtain ⟨b,off,e,_,_,hx⟩:=h3 (j / 3) (by omega);rw [e] at hv;obtain ⟨hv1,_,_⟩:=hv
 injection hv1 with hv1
 subst hv1;have hi:j / 3 < ps.length:=(by omega);have ed:ps.getD (j / 3) dP=ps[j / 3]:=(by simp [List.getD,hi]);have ef:=z3M z0y 3 (λ_=>rfl) ps (j / 3) hi (j % 3) (by omega);rw [show j / 3 * 3+j % 3=j by omega,hj] at ef;rw [ed] at hx;obtain ⟨x0,x1,x2⟩:=hx
 have hadd:(⟨b,off,none⟩:Addr).add j=⟨b,off+j,none⟩:=by
  simp [Addr.add]
  try (intro h;omega)
 rw [hadd]
 rcases (by omega:j % 3=0\/j % 3=1\/j % 3=2) with h | h | h
 ·rw [h] at ef;rw [show off+j=off+j / 3 * 3 by omega,x0];exact ef.symm
 ·rw [h] at ef;rw [show off+j=off+j / 3 * 3+1 by omega,x1];exact ef.symm
 ·rw [h] at ef;rw [show off+j=off+j / 3 * 3+2 by omega,x2];exact ef.symm
theorem zbc {pss:List (List zk)} {k:Nat} (h:k < pss.length):(pss.take (k+1)).flatten=(pss.take k).flatten ++ pss.getD k []:=by
 have e:pss.getD k []=pss[k]:=(by simp [List.getD,h]);rw [List.take_succ_eq_append_getElem h,List.flatten_append,e];simp
theorem zeY (v:Value) (ls:List (List zk)) (hs:∀ k,(ls.take k).flatten.length<=100000) (w:World) {z:Nat} (h:z1p w z v ls) :
  Calls prog 30 #[v] w λe w'=>∃ u,e=.returned u/\zx w' w.heap.size u ls.flatten/\Below w.heap.size w w':=by
 obtain ⟨i0,hi,hz0,hz1,hz2⟩:=info_parts zaH;obtain ⟨a,cap,rfl,hlen⟩:=At.form h;unfold maxLen at hlen;have H:=O h;have HSz:=O hs;clear h hs;go_enter func30,ntmps30;go_wp2_with fail
 go_loopw [3,11] (λn i W=>∃ k:Nat,i=int i64 (k:Int)/\k<=ls.length/\n=int i64 (((ls.take k).flatten.length:Nat):Int)/\Hid (Below w.heap.size w W)) (λ_ i _=>ls.length - (intOf i).toNat)
 case atStart=>exact ⟨0,rfl,nZ,rfl,bR⟩
 case round =>
  obtain ⟨k,rfl,hk,rfl,HB⟩:=hrel;by_cases hlt:k < ls.length
  case pos =>
   obtain ⟨b1,off1,cap1',u1,e1,hc11,hc12,hbl1,x0,hs1⟩:=(H.out.kept HB.out).get hlt;simp only [Value.slice.injEq,true_and] at e1;obtain ⟨rfl,rfl⟩:=e1;unfold maxLen at hc12;have HE:=O (congrArg List.length (zbc hlt));have h1:=HSz.out (k+1);generalize hpg:ls.getD k []=pg at hs1 HE;clear hpg;obtain ⟨au,cu,rfl,hlu⟩:=At.form hs1;have e2:=HE.out;rw [List.length_append] at e2;have HE2:=O e2;generalize hn2:(ls.take (k+1)).flatten.length=n2 at h1 e2 HE2;have HN2:=O hn2;generalize (ls.take k).flatten.length=n1 at e2 HE2 |-;have hw:IntKind.i64.wrap ((n1:Int)+(pg.length:Int))=((n2:Nat):Int):=(by rw [IntKind.wrap_i64];omega);have hn:¬ ((n2:Int) < 0):=(by omega);clear hs1 e2 HE HE2 hn2;go_wp2;go_roundw
   case rel=>exact ⟨k+1,by go_num,by omega,by rw [HN2.out],HB⟩
   case measure=>simp [intOf];omega
  case neg =>
   obtain rfl:k=ls.length:=by omega
   have h1:=HSz.out ls.length;have HF:=O (List.take_length (l:=ls));generalize (ls.take ls.length).flatten.length=n at h1 |-;clear hlt;go_wp2_with fail
   refine (zhW n (by omega) _).mono ?_;rintro e W2 ⟨u,rfl,hO,hb⟩;have hz:=HB.out.size;have HO:=O (hO.base hz);have HB2:=O (HB.out.trans (hb.mono hz));clear hO hb hz HB;go_wp2_with fail
   go_loopw [6,27] (λo i W=>∃ k:Nat,i=int i64 (k:Int)/\k<=ls.length/\Hid (zx W w.heap.size o (ls.take k).flatten)/\Hid (Below w.heap.size w W) ) (λ_ i _=>ls.length - (intOf i).toNat)
   case atStart=>exact ⟨0,rfl,nZ,HO,HB2⟩
   case round =>
    clear HO HB2;obtain ⟨k,rfl,hk,HO,HB⟩:=hrel;by_cases hlt:k < ls.length
    case pos =>
     obtain ⟨b1,off1,cap1',u1,e1,hc11,hc12,hbl1,x0,hs1⟩:=(H.out.kept HB.out).get hlt;simp only [Value.slice.injEq,true_and] at e1;obtain ⟨rfl,rfl⟩:=e1;unfold maxLen at hc12;have HE:=O (zbc hlt);have h1:=HSz.out (k+1);rw [HE.out,List.length_append] at h1;generalize hpg:ls.getD k []=pg at hs1 HE h1;clear hpg;obtain ⟨au,cu,rfl,hlu⟩:=At.form hs1;obtain ⟨ao,co,rfl,_⟩:=zP HO.out;have HS1:=O hs1;have hnl:(pg.flatMap z0y).length=pg.length * 3:=z6g z0y 3 (λ_=>rfl) pg;have hsz:=HB.out.size;have hO':wr.ownsRow w.heap.size 45 3 (.slice ao (ls.take k).flatten.length co) (ls.take k).flatten.length ((ls.take k).flatten.flatMap z0y):=HO.out;generalize hN:(ls.take k).flatten.length=N at hO' h1 |-;have HN:=O hN;clear hN
     have hau:pg.length ≠ 0->au ≠ none:=λh0 hn=>by
      obtain ⟨a9,c9,e9,_,_,h9⟩:=HS1.out;simp only [Value.slice.injEq] at e9;obtain ⟨b9,o9,e8,_⟩:=h9 0 (by omega);rw [<-e9.1,hn] at e8
      cases e8
     have hcl:∀ u ∈ pg.flatMap z0y,u.oneCell'=true:=λu hu=>by
      obtain ⟨s,_,hs⟩:=List.mem_flatMap.1 hu;simp only [z0y,List.mem_cons,List.not_mem_nil,or_false] at hs
      rcases hs with rfl | rfl | rfl <;> rfl
     have HNl:=O hnl;clear hs1 hnl;go_wp2_with (at_builtin;refine wpList_plain rfl λK hK=>z4y _ (.tmp 31) (.tmp 32) 41 rfl w.heap.size 45 i0 _ 3 24 underlying41 hi hz0 hz1 hz2 rfl (by decide) _ _ _ rfl hO' au pg.length cu (pg.flatMap z0y) rfl hau HNl.out (λp hp=>zaI (by rw [<-hp];exact HS1.out)) hcl (by unfold maxLen;omega) (by omega) hsz ?_)
     intro v' w2 hown hg;refine hK _ _ ?_
     have HO2:Hid (zx w2 w.heap.size v' (ls.take (k+1)).flatten):=by
      show zx _ _ _ _;rw [HE.out];unfold zx;rw [List.length_append,List.flatMap_append,HN.out];exact hown
     have HB2:=O (HB.out.grown hg hsz (λb hb=>(World.ownsRow.lt hO' b hb).1));obtain ⟨a9,c9,rfl,_⟩:=zP HO2.out;clear hown hg HO HB hO' hau hcl HS1 HNl;go_wp2;go_roundw
     case rel=>exact ⟨k+1,by go_num,by omega,HO2,HB2⟩
     case measure=>simp [intOf];omega
    case neg =>
     obtain rfl:k=ls.length:=by omega
     rw [HF.out] at HO;obtain ⟨ao,co,rfl,_⟩:=zP HO.out;go_wp2;go_ret;exact ⟨_,rfl,HO.out,HB.out⟩
theorem zg2 (x0 x1 x2:Int) (w:World) :
  Calls prog 47 #[.agg #[int i64 x0,int i64 x1,int i64 x2]] w λe w'=>e=.returned (int i64 (wrap64 (x2 - x1)))/\Below w.heap.size w w':=by
 go_enter func47,ntmps47;go_wp2;go_ret;exact ⟨rfl,ze bR _⟩
theorem z3F (v:Value) (ps:List zk) (w:World) {z:Nat} (h:z1Y w z v ps) :
  Calls prog 18 #[v] w λe w'=>e=.returned (int i64 (z7f ps))/\Below w.heap.size w w':=by
 obtain ⟨a,cap,rfl,hlen⟩:=At.form h;have H:=O h;clear h;go_enter func18,ntmps18;go_wp2_with fail
 go_loopw [3,8] (λs i W=>∃ k:Nat,k<=ps.length/\i=int i64 k/\s=int i64 (wrap64 (z3I ps k))/\Hid (Below w.heap.size w W)) (λ_ i _=>ps.length - (intOf i).toNat)
 case atStart=>exact ⟨0,nZ,rfl,by simp [z3I,z6R],bR⟩
 case round =>
  obtain ⟨k,hk,rfl,rfl,HB⟩:=hrel;by_cases hlt:k < ps.length
  ·obtain ⟨b,off,cap',e',hc1,hc2,hbl,hx⟩:=At.get (H.out.kept HB.out) hlt;simp only [Value.slice.injEq,true_and] at e';obtain ⟨rfl,rfl⟩:=e';have HS:=O (zja ps k);generalize ps.getD k dP=x at hx HS;generalize wrap64 (z3I ps k)=s at HS |-;obtain ⟨x0,x1,x2⟩:=hx;unfold maxLen at hc2;go_wp2_with fail
   refine (zg2 _ _ _ _).mono ?_;rintro e w1 ⟨rfl,hb1⟩;have HB1:=O (zi (ze HB.out _) hb1);clear hb1 x0 x1 x2;generalize wrap64 (x.t - x.f)=y at HS |-;go_wp2;go_roundw
   case rel=>exact ⟨k+1,by omega,by go_num,by rw [<-HS.out],HB1⟩
   case measure=>simp [intOf];omega
  ·obtain rfl:k=ps.length:=by omega
   go_wp2;go_ret;exact ⟨rfl,HB.out⟩
theorem zbd (ps:List zk):∀ k,k<=ps.length->z3I ps k=zu (ps.take k)
 | 0,_=>by simp [z3I,zu]
 | k+1,h=>by
  rw [z3I,zbd ps k (by omega),List.take_succ_eq_append_getElem (by omega),z1D,z3b];simp [List.getD,show k < ps.length by omega]
theorem zco (ps:List zk):z3I ps ps.length=zu ps:=by rw [zbd ps _ lR,List.take_length]
def z3t (ps:List zk):Prop:=0<=zu ps/\zu ps<=1000000
theorem z4G {ps:List zk} (h:z3t ps):z7f ps=zu ps:=by
 unfold z3t at h;rw [z7f,zco];exact z32 (by omega)
theorem zg3 (pb:Nat) (v vp:Value) (room:Int) (page piece:List zk) (h1:z3t page) (h2:z3t piece) (w:World) {z z':Nat} (hb:w.heap[pb]?=some (.cells #[v,int i64 room] 110)) (hv:z1Y w z v page) (hp:z1Y w z' vp piece) :
  Calls prog 72 #[.pointer (some ⟨pb,0,none⟩),vp] w λe w'=>e=.returned (.bool (z1a page piece room))/\Below w.heap.size w w':=by
 have hmx:prog.follows .mixedOrders=true:=(by kernel_rfl);obtain ⟨av,cv,rfl,hlv⟩:=At.form hv;obtain ⟨ap,cp,rfl,hlp⟩:=At.form hp;have c0:w.cell? ⟨pb,0,none⟩=some (.slice av page.length cv):=zf hb;have c1:w.cell? ⟨pb,1,none⟩=some (int i64 room):=zf hb;have hlt:=(bL hb);have m0:=zm (a:=⟨pb,0,none⟩) hlt c0;have m1:=zm (a:=⟨pb,1,none⟩) hlt c1;have hne:=z0H w;have KA:=O (λ(u:BW w)=>z4z (by have:=z3F _ page u.u (hv.kept u.h);rw [z4G h1] at this;exact this));have KB:=O (λ(u:BW w)=>z4z (by have:=z3F _ piece u.u (hp.kept u.h);rw [z4G h2] at this;exact this));unfold z3t at h1 h2;clear hb hv hp c0 c1 hlv hlp;by_cases he:page=[]
 ·subst he;have HT:Hid (z1a [] piece room=true):=O rfl;simp only [List.length_nil] at m0 KA;go_enter func72,ntmps72;go_upto_region 1 with fail
  refine zv hmx (by kernel_rfl) ?_;repeat (go_big_quiet_step (first | (go_at_call_of 18 (av:Option Addr);refine KA.out _) | (go_at_call_of 18 (ap:Option Addr);refine KB.out _)))
  refine wpQuiet_nil ?_;intro W4 hw';obtain ⟨⟨Wx,hW4⟩,hw''⟩:=hw';subst hw'';go_wp2;go_ret;exact ⟨by rw [HT.out];rfl,hW4⟩
 ·have HT:Hid (z1a page piece room=decide (zu page+zu piece<=room)):=O (by
   unfold z1a
   cases page with
   | nil=>exact absurd rfl he
   | cons a l=>rfl)
  obtain ⟨m,hm⟩:∃ m,page.length=m+1:=Nat.exists_eq_succ_of_ne_zero (λh=>he (List.eq_nil_of_length_eq_zero h));rw [hm] at m0 KA;have hz:(((m+1:Nat):Int) == 0)=false:=beq_eq_false_iff_ne.2 (by omega);have hz2:((m:Int)+1 == 0)=false:=beq_eq_false_iff_ne.2 (by omega);clear hm he;generalize zu page=A at HT KA h1;generalize zu piece=B at HT KB h2;go_enter func72,ntmps72;go_upto_region 1 with fail
  refine zv hmx (by kernel_rfl) ?_;repeat (go_big_quiet_step (first | (go_at_call_of 18 (av:Option Addr);refine KA.out _) | (go_at_call_of 18 (ap:Option Addr);refine KB.out _)))
  refine wpQuiet_nil ?_;intro W4 hw';obtain ⟨⟨Wx,hW4⟩,hw''⟩:=hw';subst hw'';go_wp2;go_ret;exact ⟨by rw [HT.out];rfl,hW4⟩
def zX (t:T) (hs:List Int):List zk:=zT hs 0 t.head.toNat
def zY (t:T) (hs:List Int):List zk:=zT hs (t.rows.length - t.foot.toNat) t.foot.toNat
theorem z3l {hs:List Int} (hb:∀ x ∈ hs,0<=x/\x<=1000):∀ n a,n<=1000->0<=zu (zT hs a n)/\zu (zT hs a n)<=1000 * (n:Int)
 | 0,a,_=>by simp [zT,zu]
 | n+1,a,hn=>by
  have h0:0<=hs.getD a 0/\hs.getD a 0<=1000:=by
   by_cases ha:a < hs.length
   ·exact hb _ (by simp [List.getD,ha])
   ·simp [List.getD,ha]
  have:=z3l hb n (a+1) (by omega);have e:zu (zT hs a (n+1))=hs.getD a 0 - 0+zu (zT hs (a+1) n):=(by simp [zT,zu]);omega
theorem z7l {hs:List Int} (hb:∀ x ∈ hs,0<=x/\x<=1000) {n a:Nat} (hn:n<=8):z3t (zT hs a n):=by
 have:=z3l hb n a (by omega);exact ⟨this.1,by omega⟩
theorem z80 (hs:List Int) (a n:Nat) (hn:a+n<=hs.length) (hl:hs.length<=1000) (x y:Int) (hx:x=a) (hy:y=(a:Int)+n) (v:Value) (w:World) (h:zA w v hs) :
  Calls prog 65 #[v,int i64 x,int i64 y] w λe w'=>∃ u,e=.returned u/\zx w' w.heap.size u (zT hs a n)/\Below w.heap.size w w':=by
 subst hx hy;exact z7P hs a n hn hl v w h
theorem z9L (vc vr:Value) (t:T) (hok:zF t=true) (hs:List Int) (hl:hs.length=t.rows.length) (v:Value) (w:World) (h:zA w v hs) :
  Calls prog 31 #[.agg #[vc,int i64 t.head,int i64 t.foot,vr,int i64 t.gap],v] w λe w'=>∃ u,e=.returned u/\zx w' w.heap.size u (zX t hs)/\Below w.heap.size w w':=by
 have hbb:=z0R hok;have K0:=O (ze (Below.refl w.heap.size w) (.cells #[vc,int i64 t.head,int i64 t.foot,vr,int i64 t.gap] 26));have X0:=zj w (.cells #[vc,int i64 t.head,int i64 t.foot,vr,int i64 t.gap] 26);have hs1:(w.alloc (.cells #[vc,int i64 t.head,int i64 t.foot,vr,int i64 t.gap] 26)).heap.size=w.heap.size+1:=(by simp);have KW:=O (λW (h:zA W v hs)=>z80 hs 0 t.head.toNat (by omega) (by omega) 0 t.head rfl (by omega) v W h);have H:=O (h.kept K0.out);go_enter func31,ntmps31;go_upto_region 1 with fail
 generalize w.alloc (.cells #[vc,int i64 t.head,int i64 t.foot,vr,int i64 t.gap] 26)=W0 at K0 X0 hs1 H |-;obtain ⟨b0,b1,b2,b3,b4⟩:=zL X0;clear X0 h hl hbb;go_wp2_with fail
 refine (KW.out _ H.out).mono ?_;rintro e w1 ⟨u,rfl,hU,hb⟩;have HU:=O (hU.base (by omega:w.heap.size<=W0.heap.size));have HB:=O (zi K0.out hb);clear hU hb b0 b1 b2 b3 b4 hs1;go_wp2;go_ret;exact ⟨_,rfl,HU.out,HB.out⟩
theorem z9M (vc vr:Value) (t:T) (hok:zF t=true) (hs:List Int) (hl:hs.length=t.rows.length) (v:Value) (w:World) (h:zA w v hs) :
  Calls prog 32 #[.agg #[vc,int i64 t.head,int i64 t.foot,vr,int i64 t.gap],v] w λe w'=>∃ u,e=.returned u/\zx w' w.heap.size u (zY t hs)/\Below w.heap.size w w':=by
 have hbb:=z0R hok;obtain ⟨av,cv,rfl,_⟩:=h.form;rw [hl] at h |-;have K0:=O (ze (Below.refl w.heap.size w) (.cells #[vc,int i64 t.head,int i64 t.foot,vr,int i64 t.gap] 26));have X0:=zj w (.cells #[vc,int i64 t.head,int i64 t.foot,vr,int i64 t.gap] 26);have hs1:(w.alloc (.cells #[vc,int i64 t.head,int i64 t.foot,vr,int i64 t.gap] 26)).heap.size=w.heap.size+1:=(by simp);have hsm:wrap64 ((t.rows.length:Int) - t.foot)=(t.rows.length:Int) - t.foot:=z32 (by omega);have KW:=O (λW (h:zA W (.slice av t.rows.length cv) hs)=>z80 hs (t.rows.length - t.foot.toNat) t.foot.toNat (by omega) (by omega) ((t.rows.length:Int) - t.foot) t.rows.length (by omega) (by omega) (.slice av t.rows.length cv) W h);have H:=O (h.kept K0.out);go_enter func32,ntmps32;go_upto_region 1 with fail
 generalize w.alloc (.cells #[vc,int i64 t.head,int i64 t.foot,vr,int i64 t.gap] 26)=W0 at K0 X0 hs1 H |-;obtain ⟨b0,b1,b2,b3,b4⟩:=zL X0;clear X0 h hl hbb;go_wp2_with fail
 refine (KW.out _ H.out).mono ?_;rintro e w1 ⟨u,rfl,hU,hb⟩;have HU:=O (hU.base (by omega:w.heap.size<=W0.heap.size));have HB:=O (zi K0.out hb);clear hU hb b0 b1 b2 b3 b4 hs1 hsm;go_wp2;go_ret;exact ⟨_,rfl,HU.out,HB.out⟩
theorem zgf {a b:Bool} (h:a=b):Ending.returned (.bool a)=.returned (.bool b):=by rw [h]
def zlp (row ins:Int) (x:GC):Bool:=(x.row == row) && (x.ins == ins)
def z0S (x first many:Int):Bool:=decide (first<=x) && decide (0 < many) && decide (x - first < many)
def zle (row col:Int) (x:GC):Bool:=z0S row x.row x.rows && z0S col x.col x.cols
theorem zhZ {x f:Int} (hx:-9223372036854775808<=x/\x<=9223372036854775807) (hf:-9223372036854775808<=f/\f<=9223372036854775807) (h:f<=x):IntKind.u64.wrap (IntKind.u64.wrap x - IntKind.u64.wrap f)=x - f:=by
 simp [IntKind.wrap,IntKind.bits,IntKind.signed];omega
theorem z8Y (x f m:Int) (hx:I64 x) (hf:I64 f) (hm:I64 m) (w:World) :
  Calls prog 110 #[int i64 f,int i64 m,int i64 x] w λe w'=>e=.returned (.bool (z0S x f m))/\w'=w:=by
 unfold I64 at hx hf hm;by_cases h1:f<=x
 ·by_cases h2:0 < m
  ·have e:z0S x f m=decide (x - f < m):=(by simp [z0S];omega);rw [e];go_enter func110,ntmps110;go_wp2;go_ret;exact ⟨zgf (by rw [zhZ hx hf h1]),rfl⟩
  ·have e:z0S x f m=false:=(by simp [z0S];omega);rw [e];go_enter func110,ntmps110;go_wp2;go_ret;exact ⟨rfl,rfl⟩
 ·have e:z0S x f m=false:=(by simp [z0S];omega);rw [e];go_enter func110,ntmps110;go_wp2;go_ret;exact ⟨rfl,rfl⟩
def zlq (rs:List R) (k:Nat):Nat:=((rs.take k).map (λx=>x.cells.length)).sum
theorem zjq {high:List Int} {beside:Int} {K k:Nat} (hl:0 < high.length) (hk:k=min K (high.length - 1)):zN (high.map (· - beside)) K=high.getD k 0 - beside:=by
 unfold zN;rw [List.length_map,<-hk];have:k < high.length:=(by omega);simp [List.getD,this]
theorem zig (bb K:Nat) (av:Option Addr) (cv:Nat) (vh:Value) (high:List Int) (beside:Int) (hl:0 < high.length) (hl2:high.length<=60) (hK:K<=100000) (hh:∀ x ∈ high,0<=x/\x<=100) (hbs:0<=beside/\beside<=1000000) (w:World) (hb:w.heap[bb]?=some (.cells #[.slice av K cv,vh,int i64 beside] 68)) (hv:zA w vh high) :
  Calls prog 70 #[.pointer (some ⟨bb,0,none⟩)] w λe w'=>e=.returned (int i64 (zN (high.map (· - beside)) K))/\Below w.heap.size w w':=by
 obtain ⟨ah,ch,rfl,_⟩:=hv.form;have c0:w.cell? ⟨bb,0,none⟩=some (.slice av K cv):=zf hb;have c1:w.cell? ⟨bb,1,none⟩=some (.slice ah high.length ch):=zf hb;have c2:w.cell? ⟨bb,2,none⟩=some (int i64 beside):=zf hb;have HV:=O hv;clear hv hb;obtain ⟨k,hk⟩:∃ k,k=min K (high.length - 1):=⟨_,rfl⟩;have HR:=O (zjq (beside:=beside) hl hk);obtain ⟨b,off,cap',e',hc1,hc2,hbl,hx⟩:=HV.out.get (i:=k) (by omega);simp only [Value.slice.injEq,true_and] at e';obtain ⟨rfl,rfl⟩:=e';unfold maxLen at hc2
 have hy:0<=high.getD k 0/\high.getD k 0<=100:=hh _ (by
  have:k < high.length:=(by omega);simp [List.getD,this])
 generalize high.getD k 0=y at hx hy HR;obtain ⟨m,hm⟩:∃ m,high.length=m+1:=Nat.exists_eq_succ_of_ne_zero (by omega);rw [hm] at c1 hc1 hk;clear hm hh HV hl hl2;by_cases h1:(m:Int) < (K:Int)
 ·obtain rfl:k=m:=by omega
  have hmi:¬ ((K:Int) < (k:Int)+1 - 1):=(by omega);clear hk;go_enter func70,ntmps70;go_wp2_with fail
  go_region
  all_goals
   go_wp2;go_ret;exact ⟨by rw [HR.out];rfl,z0X bR⟩
 ·obtain rfl:k=K:=by omega
  have hmi:¬ ((m:Int)+1 - 1 < (k:Int)):=(by omega);clear hk;go_enter func70,ntmps70;go_wp2_with fail
  go_region
  all_goals
   go_wp2;go_ret;exact ⟨by rw [HR.out];rfl,z0X bR⟩
end Go.Proofs.YtggmjiddadjilahGreat
