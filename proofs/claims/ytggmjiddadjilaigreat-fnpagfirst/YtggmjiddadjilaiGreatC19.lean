/-
  PROVED HERE: what slices of rows on pages are in memory, for the other texts of this claim; they stay where what was in memory stays. Also: 16 more texts of the same proof.
-/
import Derived.Test.YtggmjiddadjilaiGreatC14
import Derived.Deep.DeepCutAuto
set_option maxRecDepth 1000000
set_option maxHeartbeats 40000000
namespace Go.Proofs.YtggmjiddadjilaiGreat
open Go.RowKit
structure PgS where
 r:Int
 f:Int
 t:Int
def dP:PgS:=⟨0,0,0⟩
def PIs (w:World) (b o:Nat) (x:PgS):Prop:=w.cell? ⟨b,o,none⟩=some (.int .i64 x.r)∧w.cell? ⟨b,o+1,none⟩=some (.int .i64 x.f)∧w.cell? ⟨b,o+2,none⟩=some (.int .i64 x.t)
def z2p (w:World) (z:Nat) (v:Value) (ps:List PgS):Prop:=At w z v ps.length 3 (fun i b o=>PIs w b o (ps.getD i dP))
def z0H (w:World) (z:Nat) (v:Value) (pss:List (List PgS)):Prop:=At w z v pss.length 1 (fun i b o=>∃ u,w.cell? ⟨b,o,none⟩=some u∧z2p w z u (pss.getD i []))
theorem PIs.since {w w':World} {z b o:Nat} {x:PgS} (h:PIs w b o x) (hb:b < w.heap.size) (hz:z≤b) (k:z08 z w w'):PIs w' b o x:=by
 unfold PIs at h ⊢;simp only [k.cell hz hb];exact h
theorem z2p.since {w w':World} {z:Nat} {v:Value} {ps:List PgS} (h:z2p w z v ps) (k:z08 z w w'):z2p w' z v ps :=
 At.mono h k.size (Nat.le_refl _) (fun _ _ _ _ hb hz he=>he.since hb hz k)
theorem z0H.since {w w':World} {z:Nat} {v:Value} {pss:List (List PgS)} (h:z0H w z v pss) (k:z08 z w w'):z0H w' z v pss :=
 At.mono h k.size (Nat.le_refl _) (fun _ _ _ _ hb hz ⟨u,h1,h2⟩=>⟨u,(k.cell hz hb _).trans h1,h2.since k⟩)
theorem z2p.kept {w w':World} {z:Nat} {v:Value} {ps:List PgS} (h:z2p w z v ps) (k:Below w.heap.size w w'):z2p w' z v ps:=h.since (.of_below k)
theorem z0H.kept {w w':World} {z:Nat} {v:Value} {pss:List (List PgS)} (h:z0H w z v pss) (k:Below w.heap.size w w'):z0H w' z v pss:=h.since (.of_below k)
theorem z2p.base {w:World} {z z':Nat} {v:Value} {ps:List PgS} (h:z2p w z v ps) (hz:z'≤z):z2p w z' v ps:=At.mono h (Nat.le_refl _) hz (fun _ _ _ _ _ _ he=>he)
theorem z0H.base {w:World} {z z':Nat} {v:Value} {pss:List (List PgS)} (h:z0H w z v pss) (hz:z'≤z):z0H w z' v pss:=At.mono h (Nat.le_refl _) hz (fun _ _ _ _ _ _ ⟨u,h1,h2⟩=>⟨u,h1,h2.base hz⟩)
theorem z0H.get {w:World} {z:Nat} {v:Value} {pss:List (List PgS)} (h:z0H w z v pss) {i:Nat} (hi:i < pss.length):∃ b off cap u,v=.slice (some ⟨b,off,none⟩) pss.length cap∧pss.length≤cap∧cap≤maxLen∧b < w.heap.size∧w.cell? ⟨b,off+i,none⟩=some u∧z2p w z u (pss.getD i []):=by
 obtain ⟨b,off,cap,e,h1,h2,h3,u,h4,h5⟩:=At.get h hi;rw [Nat.mul_one] at h4;exact ⟨b,off,cap,u,e,h1,h2,h3,h4,h5⟩
def pTo (pss:List (List PgS)) (k:Nat):Nat:=((pss.take k).map List.length).sum
def ziI (pss:List (List PgS)):Nat:=pss.length+pTo pss pss.length
structure Out (B D:Nat) (w w':World):Prop where
 below:Below B w w'
 block:∀ k,D≤k→k < w.heap.size→w'.heap[k]?=w.heap[k]?
theorem Out.refl (B D:Nat) (w:World):Out B D w w:=⟨Below.refl _ _,fun _ _ _=>rfl⟩
theorem Out.set {B D:Nat} {a w:World} (h:Out B D a w) {p:Addr} (h1:B≤p.block) (h2:p.block < D) (v:Value):Out B D a (w.setCell p v) :=
 ⟨h.below.setCell h1 v,fun k h3 h4=>(Below.heap_setCell _ _ _ _ (by omega)).trans (h.block k h3 h4)⟩
theorem Out.drewN {B D:Nat} {a w:World} (h:Out B D a w) (n:Nat):Out B D a (w.drewN n):=⟨⟨h.below.os,h.below.tape,h.below.output,h.below.size,h.below.block⟩,h.block⟩
def zH (w:World) (v:Value) (l:List Int):Prop :=
 ∃ (a:Option Addr) (cap:Nat),v=.slice a l.length cap∧l.length≤cap∧cap≤maxLen∧∀ i,i < l.length→∃ b off,a=some ⟨b,off,none⟩∧b < w.heap.size∧w.cell? ⟨b,off+i,none⟩=some (.int .i64 (l.getD i 0))
theorem zH.form {w:World} {v:Value} {l:List Int} (h:zH w v l):∃ a cap,v=.slice a l.length cap∧l.length≤9223372036854775807:=by
 obtain ⟨a,cap,hv,h1,h2,_⟩:=h;unfold maxLen at h2;exact ⟨a,cap,hv,by omega⟩
theorem zH.get {w:World} {v:Value} {l:List Int} (h:zH w v l) {i:Nat} (hi:i < l.length) :
  ∃ b off cap,v=.slice (some ⟨b,off,none⟩) l.length cap∧l.length≤cap∧cap≤maxLen∧b < w.heap.size∧w.cell? ⟨b,off+i,none⟩=some (.int .i64 (l.getD i 0)):=by
 obtain ⟨a,cap,hv,h1,h2,h3⟩:=h;obtain ⟨b,off,rfl,h4,h5⟩:=h3 i hi;exact ⟨b,off,cap,hv,h1,h2,h4,h5⟩
theorem zH.kept {w w':World} {v:Value} {l:List Int} (h:zH w v l) (k:Below w.heap.size w w'):zH w' v l:=by
 obtain ⟨a,cap,hv,h1,h2,h3⟩:=h;refine ⟨a,cap,hv,h1,h2,fun i hi=>?_⟩;obtain ⟨b,off,h4,h5,h6⟩:=h3 i hi;exact ⟨b,off,h4,Nat.lt_of_lt_of_le h5 k.size,(k.cell (p:=⟨b,off+i,none⟩) h5).trans h6⟩
def zz (w:World) (B D:Nat) (v:Value) (l:List Int):Prop :=
 (v=.slice none 0 0∧l=[])∨∃ g cap cur,v=.slice (some ⟨g,0,none⟩) l.length cap∧B≤g∧g < D∧w.heap[g]?=some (.cells cur 3 (0,0))∧l.length≤cap∧cap≤maxLen∧cur.size=cap∧∀ i,i < l.length→cur[i]?=some (.int .i64 (l.getD i 0))
theorem zz.of_owns {w:World} {B:Nat} {v:Value} {l:List Int} (h:w.ownsRow B 3 1 v l.length (l.map (Value.int .i64))):zz w B w.heap.size v l:=by
 rcases h.2 with ⟨hv,h0⟩ | ⟨g,cap,cur,hv,hb,hg,h1,h2,h3,h4⟩
 ·exact .inl ⟨hv,List.eq_nil_of_length_eq_zero h0⟩
 ·refine .inr ⟨g,cap,cur,hv,hb,(bL hg),hg,h1,h2,by omega,fun i hi=>?_⟩;have:cur.toList[i]?=(l.map (Value.int .i64))[i]?:=(by rw [← h4,List.getElem?_take_of_lt (by omega)]);rw [← Array.getElem?_toList,this];simp [List.getD,hi]
theorem zz.owns {w:World} {B D:Nat} {v:Value} {l:List Int} (h:zz w B D v l):w.ownsRow B 3 1 v l.length (l.map (Value.int .i64)):=by
 refine ⟨by simp,?_⟩
 rcases h with ⟨hv,rfl⟩ | ⟨g,cap,cur,hv,hb,hd,hg,h1,h2,h3,h4⟩
 ·exact .inl ⟨hv,rfl⟩
 ·refine .inr ⟨g,cap,cur,hv,hb,hg,h1,h2,by omega,?_⟩;apply List.ext_getElem?;intro i;by_cases hi:i < l.length
  ·rw [List.getElem?_take_of_lt (by omega),Array.getElem?_toList,h4 i hi];simp [List.getD,hi]
  ·rw [List.getElem?_eq_none (by simp;omega),List.getElem?_eq_none (by simp;omega)]
theorem zz.at {w:World} {B D:Nat} {v:Value} {l:List Int} (h:zz w B D v l):zH w v l:=by
 rcases h with ⟨rfl,rfl⟩ | ⟨g,cap,cur,hv,hb,hd,hg,h1,h2,h3,h4⟩
 ·exact ⟨none,0,rfl,Nat.le_refl _,Nat.zero_le _,fun i hi=>absurd hi (Nat.not_lt_zero _)⟩
 ·exact ⟨_,cap,hv,h1,h2,fun i hi=>⟨g,0,rfl,(bL hg),by rw [Nat.zero_add];exact (zf hg).trans (h4 i hi)⟩⟩
theorem zz.kept {w w':World} {B D:Nat} {v:Value} {l:List Int} (h:zz w B D v l) (k:∀ j,j < w.heap.size→B≤j→j < D→w'.heap[j]?=w.heap[j]?):zz w' B D v l:=by
 rcases h with h | ⟨g,cap,cur,hv,hb,hd,hg,r⟩
 ·exact .inl h
 ·exact .inr ⟨g,cap,cur,hv,hb,hd,(k g (bL hg) hb hd).trans hg,r⟩
theorem zz.below {w w':World} {B D C:Nat} {v:Value} {l:List Int} (h:zz w B D v l) (k:Below C w w') (hC:D≤C):zz w' B D v l :=
 h.kept (fun j _ _ h2=>k.block j (Nat.lt_of_lt_of_le h2 hC))
theorem zz.base {w:World} {B B' D D':Nat} {v:Value} {l:List Int} (h:zz w B D v l) (hB:B'≤B) (hD:D≤D'):zz w B' D' v l:=by
 rcases h with h | ⟨g,cap,cur,hv,hb,hd,r⟩
 ·exact .inl h
 ·exact .inr ⟨g,cap,cur,hv,Nat.le_trans hB hb,Nat.lt_of_lt_of_le hd hD,r⟩
theorem zz.form {w:World} {B D:Nat} {v:Value} {l:List Int} (h:zz w B D v l):∃ a cap,v=.slice a l.length cap:=by
 rcases h with ⟨rfl,rfl⟩ | ⟨g,cap,cur,hv,_⟩
 ·exact ⟨none,0,rfl⟩
 ·exact ⟨_,_,hv⟩
theorem zz.get {w:World} {B D:Nat} {v:Value} {l:List Int} (h:zz w B D v l) {i:Nat} (hi:i < l.length) :
  ∃ g cap,v=.slice (some ⟨g,0,none⟩) l.length cap∧B≤g∧g < D∧g < w.heap.size∧l.length≤cap∧cap≤maxLen∧w.cell? ⟨g,i,none⟩=some (.int .i64 (l.getD i 0))∧w.frozen? ⟨g,i,none⟩=false:=by
 rcases h with ⟨_,rfl⟩ | ⟨g,cap,cur,hv,hb,hd,hg,h1,h2,h3,h4⟩
 ·cases hi
 ·exact ⟨g,cap,hv,hb,hd,(bL hg),h1,h2,(zf hg).trans (h4 i hi),zx hg⟩
theorem zz.set {w:World} {B D g cap n:Nat} {l:List Int} (h:zz w B D (.slice (some ⟨g,0,none⟩) n cap) l) {i:Nat} (hi:i < l.length) (x:Int):zz (w.setCell ⟨g,i,none⟩ (.int .i64 x)) B D (.slice (some ⟨g,0,none⟩) n cap) (l.set i x):=by
 rcases h with ⟨hv,_⟩ | ⟨g',cap',cur,hv,hb,hd,hg,h1,h2,h3,h4⟩
 ·simp at hv
 ·simp only [Value.slice.injEq,Option.some.injEq,Addr.mk.injEq,and_true] at hv;obtain ⟨rfl,rfl,rfl⟩:=hv;refine .inr ⟨g,cap,cur.setIfInBounds i (.int .i64 x),by simp,hb,hd,z06 hg _,by simpa using h1,h2,by simpa using h3,fun j hj=>?_⟩;rw [List.length_set] at hj;by_cases e:i=j
  ·subst e;simp [List.getD,hj,show i < cur.size by omega]
  ·rw [Array.getElem?_setIfInBounds_ne e,h4 j hj];simp [List.getD,e]
theorem zz.out {w w':World} {B D B' D':Nat} {v:Value} {l:List Int} (h:zz w B D v l) (k:Out B' D' w w') (hd:D≤B'∨D'≤B):zz w' B D v l :=
 h.kept (fun j h0 h1 h2=>by rcases hd with hd | hd;exact k.below.block j (by omega);exact k.block j (by omega) h0)
def wtB (n:Int):Bool:=decide (0≤n∧n≤100000)
def zq (t:Int) (l:List Int):Bool:=wtB t && decide (l.length≤100) && l.all wtB
theorem z6y (n:Int):inB n 0 100000=wtB n:=rfl
theorem zf9 {l:List Int} {k:Nat} (h:k < l.length) (h1:(l.take k).all wtB=true) (h2:wtB (l.getD k 0)=true):(l.take (k+1)).all wtB=true:=by
 rw [List.take_add_one,List.all_append,h1];simp [List.getD,h] at h2 ⊢;exact h2
theorem zgw {l:List Int} {k:Nat} (h:k < l.length) (h2:wtB (l.getD k 0)=false):l.all wtB=false:=by
 rw [List.all_eq_false];refine ⟨l[k],List.getElem_mem h,?_⟩;simp [List.getD,h] at h2;simp [h2]
theorem z3i {l:List Int} (h:l.all wtB=true) {i:Nat} (hi:i < l.length):0≤l.getD i 0∧l.getD i 0≤100000:=by
 have:=List.all_eq_true.1 h (l[i]) (List.getElem_mem hi);simp [wtB] at this
 simpa [List.getD,hi] using this
def zv (l:List Int) (k:Nat):Int:=(l.take k).sum
theorem z18 {l:List Int} {k:Nat} (h:k < l.length):zv l (k+1)=zv l k+l.getD k 0:=by
 rw [zv,List.take_add_one,List.sum_append,zv];simp [List.getD,h]
theorem z1b (l:List Int):zv l l.length=l.sum:=by rw [zv,List.take_length]
theorem z4e {l:List Int} (h:l.all wtB=true):∀ k,k≤l.length→0≤zv l k∧zv l k≤k * 100000
 | 0,_=>by simp [zv]
 | k+1,hk=>by
  have h1:=z4e h k (by omega);have h2:=z3i h (i:=k) (by omega);rw [z18 (by omega)];omega
theorem z2Q {l:List Int} (h:l.all wtB=true):0≤l.sum∧l.sum≤l.length * 100000:=by
 have:=z4e h l.length (Nat.le_refl _)
 rwa [z1b] at this
theorem z01 {t:Int} {l:List Int} (h:zq t l=true):(0≤t∧t≤100000)∧l.length≤100∧l.all wtB=true:=by
 simp only [zq,Bool.and_eq_true,decide_eq_true_eq] at h;obtain ⟨⟨h1,h2⟩,h3⟩:=h;simp only [wtB,decide_eq_true_eq] at h1;exact ⟨h1,h2,h3⟩
theorem z8V (n:Int):wrap64 n=(n+9223372036854775808) % 18446744073709551616 - 9223372036854775808:=by unfold wrap64;rfl
theorem zav (a b:Int):wrap64 (wrap64 a+b)=wrap64 (a+b):=by simp only [z8V];omega
theorem zdy (a b:Int):wrap64 (a+wrap64 b)=wrap64 (a+b):=by simp only [z8V];omega
theorem z3u {a:Int} (h:-9223372036854775808≤a∧a≤9223372036854775807):wrap64 a=a:=by rw [z8V];omega
theorem zfa (a:Int):-9223372036854775808≤wrap64 a∧wrap64 a≤9223372036854775807:=by rw [z8V];omega
def zdz (l:List Int) (col:Int):Nat:=(min (max col 0) l.length).toNat
def atV (l:List Int) (gap col:Int):Int:=wrap64 (zv l (zdz l col)+gap * (zdz l col:Nat))
def ziJ (l:List Int) (gap col:Int):Int:=if inB col 0 (l.length - 1)=true then wrap64 (atV l gap col+l.getD col.toNat 0) else 0
def z2z (l:List Int) (p:Nat→Bool):Nat→List Int
 | 0=>[]
 | k+1=>if p k=true then z2z l p k ++ [l.getD k 0] else z2z l p k
theorem zaw (l:List Int) (p:Nat→Bool):∀ k,(z2z l p k).length≤k
 | 0=>Nat.le_refl _
 | k+1=>by
  have:=zaw l p k;unfold z2z
  split
  ·rw [List.length_append,List.length_singleton];omega
  ·omega
def z1R (xs:List Int) (gap:Int):Int:=if xs.length=0 then 0 else wrap64 (xs.sum+gap * ((xs.length:Int) - 1))
theorem zfb {xs:List Int} (h:xs.length=0) (gap:Int):z1R xs gap=0:=by unfold z1R;rw [if_pos h]
theorem z4o {xs:List Int} (h:xs.length ≠ 0) (gap:Int):z1R xs gap=wrap64 (xs.sum+gap * ((xs.length:Int) - 1)):=by unfold z1R;rw [if_neg h]
theorem zH.take {w:World} {a:Option Addr} {n cap:Nat} {l:List Int} (h:zH w (.slice a n cap) l) {m:Nat} (hm:m≤l.length):zH w (.slice a m cap) (l.take m):=by
 obtain ⟨a',cap',hv,h1,h2,h3⟩:=h;simp only [Value.slice.injEq] at hv;obtain ⟨rfl,rfl,rfl⟩:=hv;have hl:(l.take m).length=m:=(by rw [List.length_take];omega);refine ⟨a,cap,by rw [hl],by omega,h2,fun i hi=>?_⟩;rw [hl] at hi;obtain ⟨b,off,h4,h5,h6⟩:=h3 i (by omega);refine ⟨b,off,h4,h5,?_⟩;rw [h6];simp [List.getD,hi]
def z4z (ps:List PgS):Nat→Int
 | 0=>0
 | k+1=>z4z ps k+((ps.getD k dP).t - (ps.getD k dP).f)
def zcP (ps:List PgS):Int:=wrap64 (z4z ps ps.length)
theorem zgx (ps:List PgS) (k:Nat):wrap64 (wrap64 (z4z ps k)+wrap64 ((ps.getD k dP).t - (ps.getD k dP).f))=wrap64 (z4z ps (k+1)):=by rw [zav,zdy,z4z]
def rwP (ps:List PgS) (row:Int):Nat→Int
 | 0=>0
 | k+1=>if (ps.getD k dP).r=row then rwP ps row k+((ps.getD k dP).t - (ps.getD k dP).f) else rwP ps row k
def zax (pss:List (List PgS)) (row:Int):Nat→Int
 | 0=>0
 | k+1=>zax pss row k+rwP (pss.getD k []) row (pss.getD k []).length
def zfc (pss:List (List PgS)) (row:Int):Int:=wrap64 (zax pss row pss.length)
def z1a (row:Int) (ps:List PgS):Bool:=ps.any (fun x=>x.r == row)
def z15 (pss:List (List PgS)) (row:Int):Int:=match pss.findIdx? (z1a row) with | some k=>(k:Int) | none=>-1
theorem zay {row:Int} {ps:List PgS} {k:Nat} (hk:k < ps.length) (h:(ps.getD k dP).r=row):z1a row ps=true:=by
 rw [z1a,List.any_eq_true];exact ⟨ps[k],List.getElem_mem hk,by simpa [List.getD,hk] using h⟩
theorem zcl {row:Int} {ps:List PgS} (h:∀ i,i < ps.length→¬ (ps.getD i dP).r=row):z1a row ps=false:=by
 rw [z1a,List.any_eq_false];intro x hx;obtain ⟨i,hi,rfl⟩:=List.mem_iff_getElem.1 hx;have:=h i hi
 simpa [List.getD,hi] using this
theorem z7U {pss:List (List PgS)} {row:Int} {k:Nat} (hk:k < pss.length) (h:∀ i,i < k→z1a row (pss.getD i [])=false) (hp:z1a row (pss.getD k [])=true):z15 pss row=(k:Int):=by
 have e:pss.findIdx? (z1a row)=some k:=by
  rw [List.findIdx?_eq_some_iff_getElem];refine ⟨hk,by simpa [List.getD,hk] using hp,fun j hj=>?_⟩;have:=h j hj
  simpa [List.getD,Nat.lt_trans hj hk] using this
 rw [z15,e]
theorem z7g {pss:List (List PgS)} {row:Int} (h:∀ i,i < pss.length→z1a row (pss.getD i [])=false):z15 pss row=-1:=by
 have e:pss.findIdx? (z1a row)=none:=by
  rw [List.findIdx?_eq_none_iff];intro x hx;obtain ⟨i,hi,rfl⟩:=List.mem_iff_getElem.1 hx;have:=h i hi
  simpa [List.getD,hi] using this
 rw [z15,e]
theorem z5p {P:Nat→Prop} {k:Nat} (h:∀ i,i < k→P i) (hk:P k):∀ i,i < k+1→P i:=fun i hi=>by
 rcases Nat.lt_or_eq_of_le (Nat.lt_succ_iff.1 hi) with h1 | rfl
 ·exact h i h1
 ·exact hk
def hiS (ps:List PgS):Int:=(ps.map fun s=>s.t - s.f).sum
theorem z2j (a b:List PgS):hiS (a ++ b)=hiS a+hiS b:=by simp [hiS]
theorem z5O (s:PgS):hiS [s]=s.t - s.f:=by simp [hiS]
def z2g (page:List PgS) (s:PgS):List PgS:=match page.getLast? with
 | none=>[s]
 | some l=>if l.r=s.r then page.dropLast ++ [⟨l.r,l.f,s.t⟩] else page ++ [s]
def zK (page piece:List PgS):List PgS:=piece.foldl z2g page
def z0f (rm:List Int) (k:Nat):Int:=rm.getD (min k (rm.length - 1)) 0
def z1c (page piece:List PgS) (room:Int):Bool:=page.isEmpty || decide (hiS page+hiS piece≤room)
def z1i (rm:List Int) (st:List (List PgS) × List PgS) (piece:List PgS):List (List PgS) × List PgS :=
 if z1c st.2 piece (z0f rm st.1.length) then (st.1,zK st.2 piece) else (st.1 ++ [st.2],zK [] piece)
def z3v (rm:List Int) (pieces:List (List PgS)):List (List PgS) :=
 let st:=pieces.foldl (z1i rm) ([],[])
 st.1 ++ [st.2]
def z0y (r:Int) (f:Int) (n:Nat):List (List PgS):=(List.range n).map fun k:Nat=>[⟨r,f+k,f+k+1⟩]
theorem z7h (r f:Int) (n:Nat):z0y r f (n+1)=[⟨r,f,f+1⟩] :: z0y r (f+1) n:=by
 unfold z0y;rw [List.range_succ_eq_map];simp only [List.map_cons,List.map_map]
 congr 1
 ·simp
 ·refine List.map_congr_left fun k _=>?_;simp only [Function.comp]
  congr 2 <;> omega
theorem zdA {rm:List Int} {pgs:List (List PgS)} {page piece:List PgS} (h:z1c page piece (z0f rm pgs.length)=true):z1i rm (pgs,page) piece=(pgs,zK page piece):=by
 unfold z1i;rw [if_pos h]
theorem zdB {rm:List Int} {pgs:List (List PgS)} {page piece:List PgS} (h:z1c page piece (z0f rm pgs.length)=false):z1i rm (pgs,page) piece=z1i rm (pgs ++ [page],[]) piece:=by
 unfold z1i;rw [if_neg (by simp only;rw [h];simp),if_pos (by simp [z1c])]
theorem zdC {rm:List Int} {pgs:List (List PgS)} {page piece:List PgS} {l:List (List PgS)} (h:z1c page piece (z0f rm pgs.length)=false):(piece :: l).foldl (z1i rm) (pgs,page)=(piece :: l).foldl (z1i rm) (pgs ++ [page],[]):=by
 rw [List.foldl_cons,List.foldl_cons,zdB h]
def zcm (page:List PgS) (r:Int):Prop:=∀ l,page.getLast?=some l→l.r ≠ r
theorem zfd {page:List PgS} {s:PgS} (h:zcm page s.r):z2g page s=page ++ [s]:=by
 unfold z2g
 split
 ·rename_i e
  rw [List.getLast?_eq_none_iff] at e;rw [e];rfl
 ·rename_i l e
  rw [if_neg (h l e)]
def z0b (hs:List Int) (a:Nat):Nat→List PgS
 | 0=>[]
 | n+1=>⟨(a:Int),0,hs.getD a 0⟩ :: z0b hs (a+1) n
theorem z7i (hs:List Int):∀ (n a:Nat),z0b hs a (n+1)=z0b hs a n ++ [⟨((a+n:Nat):Int),0,hs.getD (a+n) 0⟩]
 | 0,a=>by simp [z0b]
 | n+1,a=>by
  rw [z0b,z7i hs n (a+1),z0b];have:a+1+n=a+(n+1):=(by omega);rw [this];rfl
theorem z38 (hs:List Int):∀ (n a:Nat),(z0b hs a n).length=n
 | 0,_=>rfl
 | n+1,a=>by rw [z0b,List.length_cons,z38 hs n]
def zgn (page:List PgS) (r:Nat):Prop:=∀ s ∈ page,s.r < r
theorem zgn.last {page:List PgS} {r:Nat} (h:zgn page r):zcm page r:=fun l hl=>by
 have:=h l (List.mem_of_getLast? hl);omega
theorem zdM {a b:Bool} (h:a=b):Ending.returned (.bool a)=.returned (.bool b):=by rw [h]
def ziK (row ins:Int) (x:GC):Bool:=(x.row == row) && (x.ins == ins)
def z1I (x first many:Int):Bool:=decide (first≤x) && decide (0 < many) && decide (x - first < many)
def ziB (row col:Int) (x:GC):Bool:=z1I row x.row x.rows && z1I col x.col x.cols
theorem zfh {x f:Int} (hx:-9223372036854775808≤x∧x≤9223372036854775807) (hf:-9223372036854775808≤f∧f≤9223372036854775807) (h:f≤x):IntKind.u64.wrap (IntKind.u64.wrap x - IntKind.u64.wrap f)=x - f:=by
 simp [IntKind.wrap,IntKind.bits,IntKind.signed];omega
theorem z7o (x f m:Int) (hx:I64 x) (hf:I64 f) (hm:I64 m) (w:World) :
  Calls Tryz.prog 64 #[.int .i64 f,.int .i64 m,.int .i64 x] w fun e w'=>e=.returned (.bool (z1I x f m))∧w'=w:=by
 unfold I64 at hx hf hm;by_cases h1:f≤x
 ·by_cases h2:0 < m
  ·have e:z1I x f m=decide (x - f < m):=(by simp [z1I];omega);rw [e];go_enter Tryz.func64,Tryz.ntmps64;go_wp2;go_ret;exact ⟨zdM (by rw [zfh hx hf h1]),rfl⟩
  ·have e:z1I x f m=false:=(by simp [z1I];omega);rw [e];go_enter Tryz.func64,Tryz.ntmps64;go_wp2;go_ret;exact ⟨rfl,rfl⟩
 ·have e:z1I x f m=false:=(by simp [z1I];omega);rw [e];go_enter Tryz.func64,Tryz.ntmps64;go_wp2;go_ret;exact ⟨rfl,rfl⟩
def ziL (rs:List R) (k:Nat):Nat:=((rs.take k).map (fun x=>x.cells.length)).sum
def z3p (s:PgS):List Value:=[.int .i64 s.r,.int .i64 s.f,.int .i64 s.t]
def zS (w:World) (base:Nat) (v:Value) (ps:List PgS):Prop:=w.ownsRow base 29 3 v ps.length (ps.flatMap z3p)
theorem zS.at {w:World} {base:Nat} {v:Value} {ps:List PgS} (h:zS w base v ps):z2p w base v ps:=by
 rcases h.2 with ⟨rfl,hn⟩ | ⟨g,cap,cur,rfl,hg,hc,h1,h2,_⟩
 ·exact ⟨none,0,by rw [hn],by omega,by unfold maxLen;omega,fun i hi=>by omega⟩
 ·refine ⟨_,cap,rfl,h1,h2,fun i hi=>⟨g,0,rfl,(bL hc),hg,?_⟩⟩
  have hx:∀ j,j < 3→w.cell? ⟨g,i * 3+j,none⟩=(z3p ps[i])[j]?:=fun j hj=>by
   have e:=z2U z3p 3 (fun _=>rfl) ps i hi j hj;rw [z2V h (u:=(z3p ps[i])[j]'(by show j < 3;exact hj)) (by rw [e];simp)];simp
  have e1:ps.getD i dP=ps[i]:=(by simp [List.getD,hi]);show PIs w g (0+i * 3) (ps.getD i dP);rw [e1,Nat.zero_add];exact ⟨hx 0 (by omega),hx 1 (by omega),hx 2 (by omega)⟩
theorem zeb:(Tryz.prog.info? 29).map (fun i=>(i.zero,i.size,i.bytes))=some (some (Value.agg #[.int .i64 0,.int .i64 0,.int .i64 0]),3,24):=by kernel_rfl
theorem z78:(Tryz.prog.info? 27).map (fun i=>(i.zero,i.size,i.bytes))=some (some (Value.slice none 0 0),1,24):=by kernel_rfl
theorem zS.next {w:World} {base:Nat} {v:Value} {ps:List PgS} {s:PgS} (h:w.ownsRow base 29 3 v (ps.length+1) (ps.flatMap z3p ++ [.int .i64 s.r,.int .i64 s.f,.int .i64 s.t])):zS w base v (ps ++ [s]):=by
 unfold zS;rw [List.length_append,List.flatMap_append]
 simpa [z3p] using h
theorem zS.kept {w w':World} {base:Nat} {v:Value} {ps:List PgS} (h:zS w base v ps) (hb:Below w.heap.size w w'):zS w' base v ps :=
 ⟨h.1,h.2.elim Or.inl (fun ⟨g,cap,cur,hv,hg,hc,r⟩=>Or.inr ⟨g,cap,cur,hv,hg,(hb.block g (bL hc)).trans hc,r⟩)⟩
theorem zS.nil (w:World) (base:Nat):zS w base (.slice none 0 0) []:=⟨rfl,.inl ⟨rfl,rfl⟩⟩
theorem zS.form {w:World} {base:Nat} {v:Value} {ps:List PgS} (h:zS w base v ps):∃ a cap,v=.slice a ps.length cap:=by
 rcases h.2 with ⟨hv,h0⟩ | ⟨g,cap,cur,hv,_⟩
 ·exact ⟨none,0,by rw [h0];exact hv⟩
 ·exact ⟨_,_,hv⟩
theorem zS.base {w:World} {base base':Nat} {v:Value} {ps:List PgS} (h:zS w base v ps) (hb:base'≤base):zS w base' v ps :=
 ⟨h.1,h.2.elim Or.inl (fun ⟨g,cap,cur,hv,hg,r⟩=>Or.inr ⟨g,cap,cur,hv,Nat.le_trans hb hg,r⟩)⟩
theorem z6p (hs:List Int) (a n:Nat) (hn:a+n≤hs.length) (hl:hs.length≤1000) (v:Value) (w:World) (h:zH w v hs) :
  Calls Tryz.prog 73 #[v,.int .i64 (a:Int),.int .i64 ((a:Int)+(n:Int))] w fun e w'=>∃ u,e=.returned u∧zS w' w.heap.size u (z0b hs a n)∧Below w.heap.size w w':=by
 obtain ⟨i0,hi0,hz0,hz1,hz2⟩:=info_parts zeb;obtain ⟨av,cv,rfl,_⟩:=h.form;have H:=Hd h;clear h;go_enter Tryz.func73,Tryz.ntmps73;go_wp2_with fail
 go_loopw [7,8] (fun o i W=>∃ k:Nat,k≤n∧i=.int .i64 ((a:Int)+(k:Int))∧Hid (zS W w.heap.size o (z0b hs a k))∧Hid (Below w.heap.size w W)) (fun _ i _=>a+n - (intOf i).toNat)
 case atStart=>exact ⟨0,Nat.zero_le _,by simp,zS.nil _ _,Below.refl _ _⟩
 case round =>
  obtain ⟨k,hk,rfl,HO,HB⟩:=hrel;obtain ⟨ao,co,rfl⟩:=HO.out.form;rw [z38] at HO ⊢;by_cases hlt:k < n
  case neg =>
   obtain rfl:k=n:=by omega
   go_wp2;go_ret;exact ⟨_,rfl,HO.out,HB.out⟩
  obtain ⟨b,off,cap',e',hc1,hc2,hbl,hx⟩:=(H.out.kept HB.out).get (i:=a+k) (by omega);simp only [Value.slice.injEq,true_and] at e';obtain ⟨rfl,rfl⟩:=e';unfold maxLen at hc2;have HE:=Hd (z7i hs k a);have hlw:=z38 hs k a;have hO:=HO.out;unfold zS at hO;rw [hlw] at hO;have hsz:=HB.out.size;generalize hs.getD (a+k) 0=y at hx HE;generalize z0b hs a k=ps at HO HE hlw hO;go_wp2_with (at_builtin;refine wpList_append_own _ rfl _ _ 27 rfl w.heap.size 29 i0 _ 3 24 Tryz.underlying27 hi0 hz0 hz1 hz2 rfl (by decide) _ _ _ rfl (hO.alloc _) ⟨wr.heap.size,0,none⟩ 1 1 (z3p ⟨(a:Int)+(k:Int),0,y⟩) rfl rfl ?c1 ?c2 ?c3 ?c4 ?c5 ?_)
  case c1=>exact z1e (zl wr _)
  case c2=>simp [z3p,Value.oneCell']
  case c3=>unfold maxLen;omega
  case c4=>omega
  case c5=>simp;omega
  intro v' w2 hown' hgrow' _;have HB2:=Hd ((ze HB.out (.cells #[.int .i64 ((a:Int)+(k:Int)),.int .i64 0,.int .i64 y] 29)).grown hgrow' (by simp;omega) (fun b hb=>(hO.lt b hb).1))
  have HO2:Hid (zS w2 w.heap.size v' (z0b hs a (k+1))):=by
   show zS _ _ _ _;rw [HE.out,Int.natCast_add];exact zS.next (by rw [hlw];exact hown')
  obtain ⟨g',cap',rfl⟩:=Joins.ownsRow_form hown' (by omega);clear hown' hgrow' hO HO HB hx hlw;go_wp2;go_roundw
  case rel=>exact ⟨k+1,by omega,by go_num,HO2,HB2⟩
  case measure=>simp [intOf];omega
theorem z7E {w:World} {base base':Nat} {e:TypeId} {sz:Nat} {v:Value} {m:Nat} {xs:List Value} (h:w.ownsRow base e sz v m xs) (hb:base'≤base):w.ownsRow base' e sz v m xs :=
 ⟨h.1,h.2.elim Or.inl (fun ⟨g,cap,cur,hv,hg,r⟩=>Or.inr ⟨g,cap,cur,hv,Nat.le_trans hb hg,r⟩)⟩
theorem zS.grown {w w':World} {B base:Nat} {v U:Value} {l:List PgS} {m:Nat} {xs:List Value} (h:zS w B v l) (hU:w.ownsRow base 27 1 U m xs) (k:w.grownBy w' U.ownBlock):zS w' B v l :=
 ⟨h.1,h.2.elim Or.inl (fun ⟨g,cap,cur,hv,hg,hc,r⟩=>Or.inr ⟨g,cap,cur,hv,hg,z03 hc k (z07 (zk hU hc (by decide))),r⟩)⟩
def zB (w:World) (B:Nat) (us:List Value) (ls:List (List PgS)):Prop:=us.length=ls.length∧∀ i,i < ls.length→zS w B (us.getD i (.slice none 0 0)) (ls.getD i [])
theorem zB.nil (w:World) (B:Nat):zB w B [] []:=⟨rfl,fun i hi=>absurd hi (Nat.not_lt_zero i)⟩
theorem zB.kept {w w':World} {B:Nat} {us:List Value} {ls:List (List PgS)} (h:zB w B us ls) (k:Below w.heap.size w w'):zB w' B us ls:=⟨h.1,fun i hi=>(h.2 i hi).kept k⟩
theorem zB.base {w:World} {B B':Nat} {us:List Value} {ls:List (List PgS)} (h:zB w B us ls) (k:B'≤B):zB w B' us ls:=⟨h.1,fun i hi=>(h.2 i hi).base k⟩
theorem zB.grown {w w':World} {B base:Nat} {U:Value} {us:List Value} {ls:List (List PgS)} {m:Nat} {xs:List Value} (h:zB w B us ls) (hU:w.ownsRow base 27 1 U m xs) (k:w.grownBy w' U.ownBlock):zB w' B us ls:=⟨h.1,fun i hi=>(h.2 i hi).grown hU k⟩
theorem zB.app {w:World} {B:Nat} {us us':List Value} {ls ls':List (List PgS)} (h:zB w B us ls) (h':zB w B us' ls'):zB w B (us ++ us') (ls ++ ls'):=by
 refine ⟨by rw [List.length_append,List.length_append,h.1,h'.1],fun i hi=>?_⟩;rw [List.length_append] at hi
 rcases Nat.lt_or_ge i ls.length with h1 | h1
 ·have e1:(us ++ us').getD i (.slice none 0 0)=us.getD i (.slice none 0 0):=by
   rw [List.getD_eq_getElem?_getD,List.getElem?_append_left (by rw [h.1];exact h1),← List.getD_eq_getElem?_getD]
  have e2:(ls ++ ls').getD i []=ls.getD i []:=by
   rw [List.getD_eq_getElem?_getD,List.getElem?_append_left h1,← List.getD_eq_getElem?_getD]
  rw [e1,e2];exact h.2 i h1
 ·have e1:(us ++ us').getD i (.slice none 0 0)=us'.getD (i - ls.length) (.slice none 0 0):=by
   rw [List.getD_eq_getElem?_getD,List.getElem?_append_right (by rw [h.1];exact h1),h.1,← List.getD_eq_getElem?_getD]
  have e2:(ls ++ ls').getD i []=ls'.getD (i - ls.length) []:=by
   rw [List.getD_eq_getElem?_getD,List.getElem?_append_right h1,← List.getD_eq_getElem?_getD]
  rw [e1,e2];exact h'.2 _ (by omega)
theorem zB.one {w:World} {B:Nat} {u:Value} {l:List PgS} (h:zS w B u l):zB w B [u] [l]:=by
 refine ⟨rfl,fun i hi=>?_⟩;have:i=0:=(by simpa using hi);subst this;exact h
theorem zB.pss {w:World} {B base z:Nat} {v:Value} {us:List Value} {ls:List (List PgS)} (h:zB w B us ls) (hO:w.ownsRow base 27 1 v us.length us) (hz:z≤base) (hzB:z≤B):z0H w z v ls:=by
 unfold z0H;have hul:=h.1
 rcases hO.2 with ⟨hv,h0⟩ | ⟨g,cap,cur,hv,hb,hg,h1,h2,h3,h4⟩
 ·exact ⟨none,0,by rw [← hul,h0];exact hv,by omega,Nat.zero_le _,fun i hi=>by omega⟩
 ·refine ⟨some ⟨g,0,none⟩,cap,by rw [← hul];exact hv,by omega,h2,fun i hi=>⟨g,0,rfl,(bL hg),by omega,us.getD i (.slice none 0 0),?_,(h.2 i hi).at.base hzB⟩⟩;have:cur.toList[i]?=us[i]?:=(by rw [← h4,List.getElem?_take_of_lt (by omega)]);rw [Nat.zero_add,Nat.mul_one,zf hg,← Array.getElem?_toList,this];simp [List.getD,show i < us.length by omega]
theorem zbV (r f:Int) (k:Nat):z0y r f (k+1)=z0y r f k ++ [[⟨r,f+k,f+k+1⟩]]:=by simp [z0y,List.range_succ]
theorem zd4 (r f:Int) (k:Nat):(z0y r f k).length=k:=by simp [z0y]
theorem zgN (w:World) (B:Nat) (hB:B≤w.heap.size) (s:PgS):zS (w.alloc (.cells #[.int .i64 s.r,.int .i64 s.f,.int .i64 s.t] 29)) B (.slice (some ⟨w.heap.size,0,none⟩) 1 1) [s]:=by
 refine ⟨rfl,.inr ⟨w.heap.size,1,#[.int .i64 s.r,.int .i64 s.f,.int .i64 s.t],rfl,hB,zl _ _,Nat.le_refl _,by unfold maxLen;omega,rfl,?_⟩⟩;simp [z3p]
theorem zbW (r:Int) (n:Nat) (hn:n≤100000) (w:World) :
  Calls Tryz.prog 80 #[.agg #[.int .i64 r,.int .i64 0,.int .i64 (n:Int)]] w fun e w'=>∃ v us,e=.returned v∧w'.ownsRow w.heap.size 27 1 v us.length us∧zB w' w.heap.size us (z0y r 0 n)∧Below w.heap.size w w':=by
 obtain ⟨i0,hi0,hz0,hz1,hz2⟩:=info_parts z78;have K0:=Hd (ze (Below.refl w.heap.size w) (.cells #[.int .i64 r,.int .i64 0,.int .i64 (n:Int)] 29));have X0:=Hd (zl w (.cells #[.int .i64 r,.int .i64 0,.int .i64 (n:Int)] 29));go_enter Tryz.func80,Tryz.ntmps80;go_wp2_with fail
 go_loopw [3,4] (fun o i W=>∃ (k:Nat) (us:List Value),k≤n∧i=.int .i64 (k:Int)∧us.length=k∧Hid (W.ownsRow (w.heap.size+1) 27 1 o k us)∧Hid (zB W (w.heap.size+1) us (z0y r 0 k))∧Hid (Below w.heap.size w W)∧Hid (W.heap[w.heap.size]?=some (.cells #[.int .i64 r,.int .i64 0,.int .i64 (n:Int)] 29))) (fun _ i _=>n - (intOf i).toNat)
 case atStart=>exact ⟨0,[],Nat.zero_le _,rfl,rfl,⟨rfl,.inl ⟨rfl,rfl⟩⟩,zB.nil _ _,K0,X0⟩
 case round =>
  clear K0 X0;obtain ⟨k,us,hk,rfl,hul,HO,HP,HB,HX⟩:=hrel;have c0:wr.cell? ⟨w.heap.size,0,none⟩=some (.int .i64 r):=zf HX.out;have c1:wr.cell? ⟨w.heap.size,1,none⟩=some (.int .i64 0):=zf HX.out;have c2:wr.cell? ⟨w.heap.size,2,none⟩=some (.int .i64 (n:Int)):=zf HX.out;obtain ⟨ao,co,rfl,_⟩:=z02 HO.out;have hsz:=(bL HX.out);by_cases hlt:k < n
  case neg =>
   obtain rfl:k=n:=by omega
   have HL:=Hd hul;clear hul;go_wp2;go_ret;exact ⟨_,us,rfl,by rw [HL.out];exact z7E HO.out (by omega),HP.out.base (by omega),HB.out⟩
  have HE:=Hd (zbV r 0 k);rw [Int.zero_add] at HE;have hO:=HO.out;have O1:=Hd (zgN wr (w.heap.size+1) (by omega) ⟨r,(k:Int),(k:Int)+1⟩);have HL:=Hd hul;clear hul;go_wp2_with (at_builtin;refine wpList_append_own _ rfl _ _ 23 rfl (w.heap.size+1) 27 i0 _ 1 24 Tryz.underlying23 hi0 hz0 hz1 hz2 rfl (by decide) _ _ _ rfl ((hO.alloc _).alloc _) ⟨wr.heap.size+1,0,none⟩ 1 1 [.slice (some ⟨wr.heap.size,0,none⟩) 1 1] rfl rfl ?c1 ?c2 ?c3 ?c4 ?c5 ?_)
  case c2=>rfl
  case c3=>unfold maxLen;omega
  case c4=>omega
  case c5=>omega
  intro v' w2 hown' hgrow' _;have hOA:=(hO.alloc (.cells #[.int .i64 r,.int .i64 (k:Int),.int .i64 ((k:Int)+1)] 29)).alloc (.cells #[.slice (some ⟨wr.heap.size,0,none⟩) 1 1] 27);have HB2:=Hd ((ze (ze HB.out (.cells #[.int .i64 r,.int .i64 (k:Int),.int .i64 ((k:Int)+1)] 29)) (.cells #[.slice (some ⟨wr.heap.size,0,none⟩) 1 1] 27)).grown hgrow' (by simp;omega) (fun b hb=>by have:=(hO.lt b hb).1;omega));have KA:=ze (ze (Below.refl wr.heap.size wr) (.cells #[.int .i64 r,.int .i64 (k:Int),.int .i64 ((k:Int)+1)] 29)) (.cells #[.slice (some ⟨wr.heap.size,0,none⟩) 1 1] 27);have HX2:=Hd (z03 ((KA.block _ hsz).trans HX.out) hgrow' (z07 (zk hOA ((KA.block _ hsz).trans HX.out) (by decide))))
  have HP2:Hid (zB w2 (w.heap.size+1) (us ++ [.slice (some ⟨wr.heap.size,0,none⟩) 1 1]) (z0y r 0 (k+1))):=by
   show zB _ _ _ _;rw [HE.out];exact ((HP.out.kept KA).grown hOA hgrow').app (zB.one ((O1.out.kept (ze (Below.refl _ _) _)).grown hOA hgrow'))
  have HL2:Hid ((us ++ [Value.slice (some ⟨wr.heap.size,0,none⟩) 1 1]).length=k+1):=(by show _=_;rw [List.length_append,HL.out];rfl);have HO2:=Hd hown';obtain ⟨g',cap',rfl⟩:=Joins.ownsRow_form hown' (by omega);clear hown' hgrow' hO HO HB HP HX hOA KA c0 c1 c2;go_wp2;go_roundw
  case rel=>exact ⟨k+1,_,by omega,by go_num,HL2.out,HO2,HP2,HB2,HX2⟩
  case measure=>simp [intOf];omega
theorem zec (x0 x1 x2:Int) (w:World) :
  Calls Tryz.prog 72 #[.agg #[.int .i64 x0,.int .i64 x1,.int .i64 x2]] w fun e w'=>e=.returned (.int .i64 (wrap64 (x2 - x1)))∧Below w.heap.size w w':=by
 go_enter Tryz.func72,Tryz.ntmps72;go_wp2;go_ret;exact ⟨rfl,ze (Below.refl _ _) _⟩
theorem z4i (v:Value) (ps:List PgS) (w:World) {z:Nat} (h:z2p w z v ps) :
  Calls Tryz.prog 37 #[v] w fun e w'=>e=.returned (.int .i64 (zcP ps))∧Below w.heap.size w w':=by
 obtain ⟨a,cap,rfl,hlen⟩:=At.form h;have H:=Hd h;clear h;go_enter Tryz.func37,Tryz.ntmps37;go_wp2_with fail
 go_loopw [3,8] (fun s i W=>∃ k:Nat,k≤ps.length∧i=.int .i64 k∧s=.int .i64 (wrap64 (z4z ps k))∧Hid (Below w.heap.size w W)) (fun _ i _=>ps.length - (intOf i).toNat)
 case atStart=>exact ⟨0,Nat.zero_le _,rfl,by simp [z4z,z8V],Below.refl _ _⟩
 case round =>
  obtain ⟨k,hk,rfl,rfl,HB⟩:=hrel;by_cases hlt:k < ps.length
  ·obtain ⟨b,off,cap',e',hc1,hc2,hbl,hx⟩:=At.get (H.out.kept HB.out) hlt;simp only [Value.slice.injEq,true_and] at e';obtain ⟨rfl,rfl⟩:=e';have HS:=Hd (zgx ps k);generalize ps.getD k dP=x at hx HS;generalize wrap64 (z4z ps k)=s at HS ⊢;obtain ⟨x0,x1,x2⟩:=hx;unfold maxLen at hc2;go_wp2_with fail
   refine (zec _ _ _ _).mono ?_;rintro e w1 ⟨rfl,hb1⟩;have HB1:=Hd (zh (ze HB.out _) hb1);clear hb1 x0 x1 x2;generalize wrap64 (x.t - x.f)=y at HS ⊢;go_wp2;go_roundw
   case rel=>exact ⟨k+1,by omega,by go_num,by rw [← HS.out],HB1⟩
   case measure=>simp [intOf];omega
  ·obtain rfl:k=ps.length:=by omega
   go_wp2;go_ret;exact ⟨rfl,HB.out⟩
theorem z9C (ps:List PgS):∀ k,k≤ps.length→z4z ps k=hiS (ps.take k)
 | 0,_=>by simp [z4z,hiS]
 | k+1,h=>by
  rw [z4z,z9C ps k (by omega),List.take_succ_eq_append_getElem (by omega),z2j,z5O];simp [List.getD,show k < ps.length by omega]
theorem zfz (ps:List PgS):z4z ps ps.length=hiS ps:=by rw [z9C ps _ (Nat.le_refl _),List.take_length]
def z48 (ps:List PgS):Prop:=0≤hiS ps∧hiS ps≤1000000
theorem z67 {ps:List PgS} (h:z48 ps):zcP ps=hiS ps:=by
 unfold z48 at h;rw [zcP,zfz];exact z3u (by omega)
theorem zed (pb:Nat) (v vp:Value) (room:Int) (page piece:List PgS) (h1:z48 page) (h2:z48 piece) (w:World) {z z':Nat} (hb:w.heap[pb]?=some (.cells #[v,.int .i64 room] 121)) (hv:z2p w z v page) (hp:z2p w z' vp piece) :
  Calls Tryz.prog 76 #[.pointer (some ⟨pb,0,none⟩),vp] w fun e w'=>e=.returned (.bool (z1c page piece room))∧Below w.heap.size w w':=by
 have hmx:Tryz.prog.follows .mixedOrders=true:=(by kernel_rfl);obtain ⟨av,cv,rfl,hlv⟩:=At.form hv;obtain ⟨ap,cp,rfl,hlp⟩:=At.form hp;have c0:w.cell? ⟨pb,0,none⟩=some (.slice av page.length cv):=zf hb;have c1:w.cell? ⟨pb,1,none⟩=some (.int .i64 room):=zf hb;have hlt:=(bL hb);have m0:=zt (a:=⟨pb,0,none⟩) hlt c0;have m1:=zt (a:=⟨pb,1,none⟩) hlt c1;have hne:=z22 w;have KA:=Hd (fun (u:BW w)=>z84 (by have:=z4i _ page u.u (hv.kept u.h);rw [z67 h1] at this;exact this));have KB:=Hd (fun (u:BW w)=>z84 (by have:=z4i _ piece u.u (hp.kept u.h);rw [z67 h2] at this;exact this));unfold z48 at h1 h2;clear hb hv hp c0 c1 hlv hlp;by_cases he:page=[]
 ·subst he;have HT:Hid (z1c [] piece room=true):=Hd rfl;simp only [List.length_nil] at m0 KA;go_enter Tryz.func76,Tryz.ntmps76;go_upto_region 1 with fail
  refine z0L hmx (by kernel_rfl) ?_;repeat (go_big_quiet_step (first | (go_at_call_of 37 (av:Option Addr);refine KA.out _) | (go_at_call_of 37 (ap:Option Addr);refine KB.out _)))
  refine wpQuiet_nil ?_;intro W4 hw';obtain ⟨⟨Wx,hW4⟩,hw''⟩:=hw';subst hw'';go_wp2;go_ret;exact ⟨by rw [HT.out];rfl,hW4⟩
 ·have HT:Hid (z1c page piece room=decide (hiS page+hiS piece≤room)):=Hd (by
   unfold z1c
   cases page with
   | nil=>exact absurd rfl he
   | cons a l=>rfl)
  obtain ⟨m,hm⟩:∃ m,page.length=m+1:=Nat.exists_eq_succ_of_ne_zero (fun h=>he (List.eq_nil_of_length_eq_zero h));rw [hm] at m0 KA;have hz:(((m+1:Nat):Int) == 0)=false:=beq_eq_false_iff_ne.2 (by omega);have hz2:((m:Int)+1 == 0)=false:=beq_eq_false_iff_ne.2 (by omega);clear hm he;generalize hiS page=A at HT KA h1;generalize hiS piece=B at HT KB h2;go_enter Tryz.func76,Tryz.ntmps76;go_upto_region 1 with fail
  refine z0L hmx (by kernel_rfl) ?_;repeat (go_big_quiet_step (first | (go_at_call_of 37 (av:Option Addr);refine KA.out _) | (go_at_call_of 37 (ap:Option Addr);refine KB.out _)))
  refine wpQuiet_nil ?_;intro W4 hw';obtain ⟨⟨Wx,hW4⟩,hw''⟩:=hw';subst hw'';go_wp2;go_ret;exact ⟨by rw [HT.out];rfl,hW4⟩
def z0w (t:T) (hs:List Int):List PgS:=z0b hs 0 t.head.toNat
def z0x (t:T) (hs:List Int):List PgS:=z0b hs (t.rows.length - t.foot.toNat) t.foot.toNat
theorem z5s {hs:List Int} (hb:∀ x ∈ hs,0≤x∧x≤1000):∀ n a,n≤1000→0≤hiS (z0b hs a n)∧hiS (z0b hs a n)≤1000 * (n:Int)
 | 0,a,_=>by simp [z0b,hiS]
 | n+1,a,hn=>by
  have h0:0≤hs.getD a 0∧hs.getD a 0≤1000:=by
   by_cases ha:a < hs.length
   ·exact hb _ (by simp [List.getD,ha])
   ·simp [List.getD,ha]
  have:=z5s hb n (a+1) (by omega);have e:hiS (z0b hs a (n+1))=hs.getD a 0 - 0+hiS (z0b hs (a+1) n):=(by simp [z0b,hiS]);omega
theorem z8h {hs:List Int} (hb:∀ x ∈ hs,0≤x∧x≤1000) {n a:Nat} (hn:n≤8):z48 (z0b hs a n):=by
 have:=z5s hb n a (by omega);exact ⟨this.1,by omega⟩
theorem z6M (hs:List Int) (a n:Nat) (hn:a+n≤hs.length) (hl:hs.length≤1000) (x y:Int) (hx:x=a) (hy:y=(a:Int)+n) (v:Value) (w:World) (h:zH w v hs) :
  Calls Tryz.prog 73 #[v,.int .i64 x,.int .i64 y] w fun e w'=>∃ u,e=.returned u∧zS w' w.heap.size u (z0b hs a n)∧Below w.heap.size w w':=by
 subst hx hy;exact z6p hs a n hn hl v w h
theorem zd5 (vc vr:Value) (t:T) (hok:zr t=true) (hs:List Int) (hl:hs.length=t.rows.length) (v:Value) (w:World) (h:zH w v hs) :
  Calls Tryz.prog 38 #[.agg #[vc,.int .i64 t.head,.int .i64 t.foot,vr,.int .i64 t.gap],v] w fun e w'=>∃ u,e=.returned u∧zS w' w.heap.size u (z0w t hs)∧Below w.heap.size w w':=by
 have hbb:=z16 hok;have K0:=Hd (ze (Below.refl w.heap.size w) (.cells #[vc,.int .i64 t.head,.int .i64 t.foot,vr,.int .i64 t.gap] 33));have X0:=zl w (.cells #[vc,.int .i64 t.head,.int .i64 t.foot,vr,.int .i64 t.gap] 33);have hs1:(w.alloc (.cells #[vc,.int .i64 t.head,.int .i64 t.foot,vr,.int .i64 t.gap] 33)).heap.size=w.heap.size+1:=(by simp);have KW:=Hd (fun W (h:zH W v hs)=>z6M hs 0 t.head.toNat (by omega) (by omega) 0 t.head rfl (by omega) v W h);have H:=Hd (h.kept K0.out);go_enter Tryz.func38,Tryz.ntmps38;go_upto_region 1 with fail
 generalize w.alloc (.cells #[vc,.int .i64 t.head,.int .i64 t.foot,vr,.int .i64 t.gap] 33)=W0 at K0 X0 hs1 H ⊢;obtain ⟨b0,b1,b2,b3,b4⟩:=z0l X0;clear X0 h hl hbb;go_wp2_with fail
 refine (KW.out _ H.out).mono ?_;rintro e w1 ⟨u,rfl,hU,hb⟩;have HU:=Hd (hU.base (by omega:w.heap.size≤W0.heap.size));have HB:=Hd (zh K0.out hb);clear hU hb b0 b1 b2 b3 b4 hs1;go_wp2;go_ret;exact ⟨_,rfl,HU.out,HB.out⟩
theorem zd6 (vc vr:Value) (t:T) (hok:zr t=true) (hs:List Int) (hl:hs.length=t.rows.length) (v:Value) (w:World) (h:zH w v hs) :
  Calls Tryz.prog 39 #[.agg #[vc,.int .i64 t.head,.int .i64 t.foot,vr,.int .i64 t.gap],v] w fun e w'=>∃ u,e=.returned u∧zS w' w.heap.size u (z0x t hs)∧Below w.heap.size w w':=by
 have hbb:=z16 hok;obtain ⟨av,cv,rfl,_⟩:=h.form;rw [hl] at h ⊢;have K0:=Hd (ze (Below.refl w.heap.size w) (.cells #[vc,.int .i64 t.head,.int .i64 t.foot,vr,.int .i64 t.gap] 33));have X0:=zl w (.cells #[vc,.int .i64 t.head,.int .i64 t.foot,vr,.int .i64 t.gap] 33);have hs1:(w.alloc (.cells #[vc,.int .i64 t.head,.int .i64 t.foot,vr,.int .i64 t.gap] 33)).heap.size=w.heap.size+1:=(by simp);have hsm:wrap64 ((t.rows.length:Int) - t.foot)=(t.rows.length:Int) - t.foot:=z3u (by omega);have KW:=Hd (fun W (h:zH W (.slice av t.rows.length cv) hs)=>z6M hs (t.rows.length - t.foot.toNat) t.foot.toNat (by omega) (by omega) ((t.rows.length:Int) - t.foot) t.rows.length (by omega) (by omega) (.slice av t.rows.length cv) W h);have H:=Hd (h.kept K0.out);go_enter Tryz.func39,Tryz.ntmps39;go_upto_region 1 with fail
 generalize w.alloc (.cells #[vc,.int .i64 t.head,.int .i64 t.foot,vr,.int .i64 t.gap] 33)=W0 at K0 X0 hs1 H ⊢;obtain ⟨b0,b1,b2,b3,b4⟩:=z0l X0;clear X0 h hl hbb;go_wp2_with fail
 refine (KW.out _ H.out).mono ?_;rintro e w1 ⟨u,rfl,hU,hb⟩;have HU:=Hd (hU.base (by omega:w.heap.size≤W0.heap.size));have HB:=Hd (zh K0.out hb);clear hU hb b0 b1 b2 b3 b4 hs1 hsm;go_wp2;go_ret;exact ⟨_,rfl,HU.out,HB.out⟩
theorem zgR {high:List Int} {beside:Int} {K k:Nat} (hl:0 < high.length) (hk:k=min K (high.length - 1)):z0f (high.map (· - beside)) K=high.getD k 0 - beside:=by
 unfold z0f;rw [List.length_map,← hk];have:k < high.length:=(by omega);simp [List.getD,this]
theorem zfE (bb K:Nat) (av:Option Addr) (cv:Nat) (vh:Value) (high:List Int) (beside:Int) (hl:0 < high.length) (hl2:high.length≤60) (hK:K≤100000) (hh:∀ x ∈ high,0≤x∧x≤100) (hbs:0≤beside∧beside≤1000000) (w:World) (hb:w.heap[bb]?=some (.cells #[.slice av K cv,vh,.int .i64 beside] 76)) (hv:zH w vh high) :
  Calls Tryz.prog 74 #[.pointer (some ⟨bb,0,none⟩)] w fun e w'=>e=.returned (.int .i64 (z0f (high.map (· - beside)) K))∧Below w.heap.size w w':=by
 obtain ⟨ah,ch,rfl,_⟩:=hv.form;have c0:w.cell? ⟨bb,0,none⟩=some (.slice av K cv):=zf hb;have c1:w.cell? ⟨bb,1,none⟩=some (.slice ah high.length ch):=zf hb;have c2:w.cell? ⟨bb,2,none⟩=some (.int .i64 beside):=zf hb;have HV:=Hd hv;clear hv hb;obtain ⟨k,hk⟩:∃ k,k=min K (high.length - 1):=⟨_,rfl⟩;have HR:=Hd (zgR (beside:=beside) hl hk);obtain ⟨b,off,cap',e',hc1,hc2,hbl,hx⟩:=HV.out.get (i:=k) (by omega);simp only [Value.slice.injEq,true_and] at e';obtain ⟨rfl,rfl⟩:=e';unfold maxLen at hc2
 have hy:0≤high.getD k 0∧high.getD k 0≤100:=hh _ (by
  have:k < high.length:=(by omega);simp [List.getD,this])
 generalize high.getD k 0=y at hx hy HR;obtain ⟨m,hm⟩:∃ m,high.length=m+1:=Nat.exists_eq_succ_of_ne_zero (by omega);rw [hm] at c1 hc1 hk;clear hm hh HV hl hl2;by_cases h1:(m:Int) < (K:Int)
 ·obtain rfl:k=m:=by omega
  have hmi:¬ ((K:Int) < (k:Int)+1 - 1):=(by omega);clear hk;go_enter Tryz.func74,Tryz.ntmps74;go_wp2_with fail
  go_region
  all_goals
   go_wp2;go_ret;exact ⟨by rw [HR.out];rfl,z1U (Below.refl _ _)⟩
 ·obtain rfl:k=K:=by omega
  have hmi:¬ ((m:Int)+1 - 1 < (k:Int)):=(by omega);clear hk;go_enter Tryz.func74,Tryz.ntmps74;go_wp2_with fail
  go_region
  all_goals
   go_wp2;go_ret;exact ⟨by rw [HR.out];rfl,z1U (Below.refl _ _)⟩
end Go.Proofs.YtggmjiddadjilaiGreat
