/-
  PROVED HERE: what is shared up to what each wants, and what is shared alike, among some columns: the same as among all, if all others want nothing. Also: 14 more texts of the same proof.
-/
import Derived.Test.YtggmjiddadjilahGreatE20
import Derived.Test.YtggmjiddadjilahGreatE16
set_option maxRecDepth 1000000
set_option maxHeartbeats 40000000
namespace Go.Proofs.YtggmjiddadjilahGreat
section
open Go.RowKit
theorem zgG {t:Int} {l:List Int} {P:Nat→Bool} (hok:zB t l=true):zB t (z0a l P l.length)=true:=by
 obtain ⟨ht,hlen,hw⟩:=z04 hok;have hnl:(zk P l.length).length≤l.length:=(by unfold zk;have:=List.length_filter_le P (List.range l.length);simpa using this);simp only [zB,Bool.and_eq_true,decide_eq_true_eq,List.all_eq_true];refine ⟨⟨by simp only [wtB,decide_eq_true_eq];exact ht,by rw [z2b];omega⟩,fun x hx=>?_⟩;unfold z0a at hx;obtain ⟨i,hi,rfl⟩:=List.mem_map.1 hx;unfold zk at hi;have hil:=List.mem_range.1 (List.mem_filter.1 hi).1;rw [show l.getD i 0=l[i] by simp [List.getD,hil]];exact List.all_eq_true.1 hw _ (List.getElem_mem hil)
theorem zi8 {t:Int} {l:List Int} {P:Nat→Bool} (hok:zB t l=true) (hz:∀ i,i < l.length→P i=false→l.getD i 0=0) :
  z0x t (z0a l P l.length)=z0a (z0x t l) P l.length∧z2e t (z0a l P l.length)=z2e t l:=by
 have hsum:(z0a l P l.length).sum=l.sum:=(by rw [z5n l.length (Nat.le_refl _) hz,z1w]);have hok':=zgG (P:=P) hok;by_cases hs:l.sum≤t
 ·rw [(z3R hok hs).1,(z3R hok hs).2,(z3R hok' (by rw [hsum];exact hs)).1,(z3R hok' (by rw [hsum];exact hs)).2,hsum];exact ⟨rfl,rfl⟩
 ·have ht:=(z04 hok).1.1;rw [(z30 hok hs).1,(z30 hok hs).2,(z30 hok' (by rw [hsum];exact hs)).1,(z30 hok' (by rw [hsum];exact hs)).2];exact ⟨(zbC hok hz (by omega)).2,rfl⟩
def z0z (P:Nat→Bool) (n:Nat):List Int:=(List.range n).map (fun i=>if P i=true then 1 else 0)
theorem z0U (P:Nat→Bool) (n:Nat):(z0z P n).length=n:=by simp [z0z]
theorem z5o {P:Nat→Bool} {n i:Nat} (h:i < n):(z0z P n).getD i 0=if P i=true then 1 else 0:=by simp [z0z,List.getD,h]
theorem z3c {t:Int} (P:Nat→Bool) {n:Nat} (ht:0≤t∧t≤100000) (hn:n≤100):zB t (z0z P n)=true:=by
 simp only [zB,Bool.and_eq_true,decide_eq_true_eq,List.all_eq_true];refine ⟨⟨by simp only [wtB,decide_eq_true_eq];exact ht,by rw [z0U];exact hn⟩,fun x hx=>?_⟩;unfold z0z at hx;obtain ⟨i,_,rfl⟩:=List.mem_map.1 hx;simp only [wtB,decide_eq_true_eq]
 split <;> omega
theorem zaL (P:Nat→Bool) (n:Nat):z0a (z0z P n) P n=List.replicate (zk P n).length 1:=by
 apply List.ext_getElem (by simp [z0a]);intro p h1 h2;have hp:p < (zk P n).length:=(by simpa [z0a] using h1);have hg:=z3o hp;have e:(z0a (z0z P n) P n)[p]=(z0a (z0z P n) P n).getD p 0:=(by simp [List.getD,h1]);rw [e,z3Q hp,z5o hg.1,if_pos hg.2];simp
theorem zi9 (m:Nat):wts (List.replicate m (0:Int))=List.replicate m 1:=by
 unfold wts
 rw [if_pos (by induction m with
  | zero=>rfl
  | succ m ih=>rw [List.replicate_succ,List.sum_cons,ih];rfl)]
 simp
theorem zjg (m:Nat):wts (List.replicate m (1:Int))=List.replicate m 1:=by
 unfold wts
 split
 ·simp
 ·rfl
theorem z9Y {t:Int} (P:Nat→Bool) {n:Nat} (ht:0≤t∧t≤100000) (hn:n≤100) (h0:0 < (zk P n).length) :
  zt t (List.replicate (zk P n).length 0)=z0a (zt t (z0z P n)) P n:=by
 have hok:=z3c P (n:=n) ht hn
 have hz:∀ i,i < (z0z P n).length→P i=false→(z0z P n).getD i 0=0:=fun i hi hP=>by
  rw [z0U] at hi;rw [z5o hi,if_neg (by rw [hP];simp)]
 have hnl:(zk P n).length≤n:=(by unfold zk;have:=List.length_filter_le P (List.range n);simpa using this)
 have hsum:(z0z P n).sum=((zk P n).length:Int):=by
  have:=z5n (l:=z0z P n) (P:=P) (z0z P n).length (Nat.le_refl _) hz;rw [z1w,z0U,zaL,z6j] at this;exact this.symm
 have h1:=(zbC hok hz (by rw [hsum];omega)).2;rw [z0U,zaL] at h1;rw [← h1]
 have hok0:zB t (List.replicate (zk P n).length 0)=true:=by
  simp only [zB,Bool.and_eq_true,decide_eq_true_eq,List.all_eq_true];exact ⟨⟨by simp only [wtB,decide_eq_true_eq];exact ht,by simp;omega⟩,fun x hx=>by rw [List.eq_of_mem_replicate hx];rfl⟩
 have hok1:zB t (List.replicate (zk P n).length 1)=true:=by
  simp only [zB,Bool.and_eq_true,decide_eq_true_eq,List.all_eq_true];exact ⟨⟨by simp only [wtB,decide_eq_true_eq];exact ht,by simp;omega⟩,fun x hx=>by rw [List.eq_of_mem_replicate hx];rfl⟩
 rw [z2B hok0 (by rw [← List.length_pos_iff];simpa using h0),z2B hok1 (by rw [← List.length_pos_iff];simpa using h0),zi9,zjg]
def z1j (a b:List Int):List Int:=List.zipWith (·+·) a b
def z0L (l:List Int) (js:List Nat) (g:List Int):Nat→List Int
 | 0=>l
 | k+1=>(z0L l js g k).set (js.getD k 0) ((z0L l js g k).getD (js.getD k 0) 0+g.getD k 0)
theorem z51 (l:List Int) (js:List Nat) (g:List Int):∀ k,(z0L l js g k).length=l.length
 | 0=>rfl
 | k+1=>by rw [z0L,List.length_set];exact z51 l js g k
theorem z7x (l:List Int) (js:List Nat) (g:List Int) {i:Nat}:∀ k,(∀ p,p < k→js.getD p 0 ≠ i)→(z0L l js g k).getD i 0=l.getD i 0
 | 0,_=>rfl
 | k+1,h=>by
  rw [z0L];simp only [List.getD,List.getElem?_set_ne (show js[k]?.getD 0 ≠ i from h k (by omega))];exact z7x l js g k (fun p hp=>h p (by omega))
theorem zbD {l:List Int} {P:Nat→Bool} {n:Nat} (hn:n≤l.length) (g:List Int) {p:Nat}:∀ k,k≤(zk P n).length→p < k→(z0L l (zk P n) g k).getD ((zk P n).getD p 0) 0=l.getD ((zk P n).getD p 0) 0+g.getD p 0
 | k+1,hk,hp=>by
  have hkl:k < (zk P n).length:=(by omega);have ek:(zk P n).getD k 0=(zk P n)[k]:=(by simp [List.getD,hkl]);have hpl:p < (zk P n).length:=(by omega);have ep:(zk P n).getD p 0=(zk P n)[p]:=(by simp [List.getD,hpl]);rw [z0L];by_cases e:p=k
  ·subst e;have hlt:(zk P n).getD p 0 < (z0L l (zk P n) g p).length:=(by rw [z51,ep];have:=(z3o hpl).1;omega)
   have ho:=z7x l (zk P n) g (i:=(zk P n).getD p 0) p (fun q hq=>by
    have hql:q < (zk P n).length:=(by omega);have:=z3i hql hpl hq;rw [ep,show (zk P n).getD q 0=(zk P n)[q] by simp [List.getD,hql]]
    omega)
   rw [ho];generalize (zk P n).getD p 0=j at hlt;simp only [List.getD,List.getElem?_set_self hlt,Option.getD_some]
  ·have hne:(zk P n).getD k 0 ≠ (zk P n).getD p 0:=by
    have:=z3i hpl hkl (by omega);rw [ek,ep];omega
   have ih:=zbD (P:=P) hn g (p:=p) k (by omega) (by omega);rw [← ih];generalize (zk P n).getD k 0=j at hne;generalize (zk P n).getD p 0=i at hne;simp only [List.getD,List.getElem?_set_ne hne]
theorem zd4 {l z0j:List Int} {P:Nat→Bool} (hl:z0j.length=l.length) (hz:∀ i,i < l.length→P i=false→z0j.getD i 0=0):z0L l (zk P l.length) (z0a z0j P l.length) (zk P l.length).length=z1j l z0j:=by
 have hlen:(z0L l (zk P l.length) (z0a z0j P l.length) (zk P l.length).length).length=(z1j l z0j).length:=(by rw [z51,z1j,List.length_zipWith,hl];omega);apply List.ext_getElem hlen;intro i h1 h2;have hi:i < l.length:=(by rw [z51] at h1;exact h1);have hm:i < z0j.length:=(by omega);have e1:(z0L l (zk P l.length) (z0a z0j P l.length) (zk P l.length).length)[i]=(z0L l (zk P l.length) (z0a z0j P l.length) (zk P l.length).length).getD i 0:=(by simp [List.getD,h1]);have e2:(z1j l z0j)[i]=l.getD i 0+z0j.getD i 0:=(by simp [z1j,List.getD,hi,hm]);rw [e1,e2]
 cases hP:P i with
 | false =>
  rw [hz i hi hP,z7x l _ _ _ (fun p hp e=>by
   have:=(z3o hp).2;rw [show (zk P l.length).getD p 0=(zk P l.length)[p] by simp [List.getD,hp]] at e;rw [e,hP] at this
   cases this)]
  omega
 | true =>
  have hmem:i ∈ zk P l.length:=(by unfold zk;rw [List.mem_filter];exact ⟨List.mem_range.2 hi,hP⟩);obtain ⟨p,hp,hpe⟩:=List.getElem_of_mem hmem;have hd:(zk P l.length).getD p 0=i:=(by simp [List.getD,hp,hpe]);have:=zbD (l:=l) (P:=P) (n:=l.length) (Nat.le_refl _) (z0a z0j P l.length) (p:=p) (zk P l.length).length (Nat.le_refl _) hp;rw [hd,z3Q hp,hpe] at this;exact this
theorem zd5 {l:List Int} {x:GC} {c m:Nat} (hc:x.col=c) (hm:x.cols=m):∀ k,k≤l.length→(z2o l (z1T x) k).length=min m (k - c)∧(z2o l (z1T x) k).sum=zF l (min k (c+m)) - zF l (min k c)
 | 0,_=>by simp [z2o,zF]
 | k+1,hk=>by
  obtain ⟨h1,h2⟩:=zd5 (l:=l) hc hm k (by omega);by_cases hin:c≤k∧k < c+m
  ·have e:z1T x k=true:=(by simp [z1T,z0J,hc,hm];omega);rw [z9h e,List.length_append,List.sum_append,h1,h2];have e1:min (k+1) (c+m)=k+1:=(by omega);have e2:min k (c+m)=k:=(by omega);have e3:min (k+1) c=c:=(by omega);have e4:min k c=c:=(by omega);rw [e1,e2,e3,e4,z1D (by omega)];simp;omega
  ·have e:z1T x k=false:=(by simp [z1T,z0J,hc,hm];omega);rw [zaK e,h1,h2];have e1:min (k+1) (c+m)=min k (c+m)∨min (k+1) c=k+1:=(by omega);by_cases hkc:k < c
   ·have a1:min (k+1) (c+m)=k+1:=(by omega);have a2:min k (c+m)=k:=(by omega);have a3:min (k+1) c=k+1:=(by omega);have a4:min k c=k:=(by omega);rw [a1,a2,a3,a4];omega
   ·have a1:min (k+1) (c+m)=min k (c+m):=(by omega);have a3:min (k+1) c=min k c:=(by omega);rw [a1,a3];omega
def zd6 (x:GC):GC:=⟨0,x.row,0,x.rows,0⟩
theorem zjh {x:GC} (h:GOk x):GOk (zd6 x):=by
 obtain ⟨a,b,c,d,e⟩:=h;exact ⟨⟨by show (-9223372036854775808:Int)≤0;omega,by show (0:Int) < 9223372036854775808;omega⟩,a,⟨by show (-9223372036854775808:Int)≤0;omega,by show (0:Int) < 9223372036854775808;omega⟩,c,⟨by show (-9223372036854775808:Int)≤0;omega,by show (0:Int) < 9223372036854775808;omega⟩⟩
def z7y (l:List Int) (x:GC):Int:=z2m l 0 (zd6 x)
theorem zdK (v:Value) (l:List Int) (hl:l.length≤1048576) (x:GC) (hx:GOk x) (w:World) (h:zA w v l) :
  Calls Tryz.prog 58 #[v,.agg #[.int .i64 x.row,.int .i64 x.col,.int .i64 x.rows,.int .i64 x.cols,.int .i64 x.ins]] w fun e w'=>e=.returned (.int .i64 (z7y l x))∧Below w.heap.size w w':=by
 obtain ⟨a,cap,rfl,hlen⟩:=h.form;have KC:=Hd (fun W=>z91 (.slice a l.length cap) l hl 0 (zd6 x) (zjh hx) W);have K0:=ze (Below.refl w.heap.size w) (.cells #[.int .i64 x.row,.int .i64 x.col,.int .i64 x.rows,.int .i64 x.cols,.int .i64 x.ins] 51);have HK:=Hd K0;have H:=Hd (h.kept K0);clear h hx K0;go_enter Tryz.func58,Tryz.ntmps58;go_wp2_with fail
 refine (KC.out _ H.out).mono ?_;rintro e w1 ⟨rfl,hb1⟩;have HK1:=Hd (zh HK.out hb1);have HV:Hid (z2m l 0 (zd6 x)=z7y l x):=rfl;rw [HV.out];clear hb1 H HK;go_wp2;go_ret;exact ⟨rfl,HK1.out⟩
def z2x (w:World) (z:Nat) (v:Value) (ls:List (List ByteArray)):Prop:=At w z v ls.length 1 (fun i b o=>∃ u,w.cell? ⟨b,o,none⟩=some u∧z2M w z u (ls.getD i []))
theorem z2M.base {w:World} {z z':Nat} {v:Value} {ss:List ByteArray} (h:z2M w z v ss) (hz:z'≤z):z2M w z' v ss:=At.mono h (Nat.le_refl _) hz (fun _ _ _ _ _ _ he=>he)
theorem z2x.since {w w':World} {z:Nat} {v:Value} {ls:List (List ByteArray)} (h:z2x w z v ls) (k:z0C z w w'):z2x w' z v ls :=
 At.mono h k.size (Nat.le_refl _) (fun _ _ _ _ hb hz ⟨u,h1,h2⟩=>⟨u,(k.cell hz hb _).trans h1,h2.since k⟩)
theorem z2x.kept {w w':World} {z:Nat} {v:Value} {ls:List (List ByteArray)} (h:z2x w z v ls) (k:Below w.heap.size w w'):z2x w' z v ls:=h.since (.of_below k)
theorem z2x.base {w:World} {z z':Nat} {v:Value} {ls:List (List ByteArray)} (h:z2x w z v ls) (hz:z'≤z):z2x w z' v ls:=At.mono h (Nat.le_refl _) hz (fun _ _ _ _ _ _ ⟨u,h1,h2⟩=>⟨u,h1,h2.base hz⟩)
theorem z2x.get {w:World} {z:Nat} {v:Value} {ls:List (List ByteArray)} (h:z2x w z v ls) {i:Nat} (hi:i < ls.length):∃ b off cap u,v=.slice (some ⟨b,off,none⟩) ls.length cap∧ls.length≤cap∧cap≤maxLen∧b < w.heap.size∧w.cell? ⟨b,off+i,none⟩=some u∧z2M w z u (ls.getD i []):=by
 obtain ⟨b,off,cap,e,h1,h2,h3,u,h4,h5⟩:=At.get h hi;rw [Nat.mul_one] at h4;exact ⟨b,off,cap,u,e,h1,h2,h3,h4,h5⟩
def z6E (w:World) (z:Nat) (us:List Value) (ls:List (List ByteArray)):Prop:=us.length=ls.length∧∀ i,i < ls.length→z2M w z (us.getD i (.slice none 0 0)) (ls.getD i [])
theorem z6E.nil (w:World) (z:Nat):z6E w z [] []:=⟨rfl,fun i hi=>absurd hi (Nat.not_lt_zero i)⟩
theorem z6E.since {w w':World} {z:Nat} {us:List Value} {ls:List (List ByteArray)} (h:z6E w z us ls) (k:z0C z w w'):z6E w' z us ls:=⟨h.1,fun i hi=>(h.2 i hi).since k⟩
theorem z6E.next {w:World} {z:Nat} {us:List Value} {ls:List (List ByteArray)} (h:z6E w z us ls) {u:Value} {l:List ByteArray} (hu:z2M w z u l):z6E w z (us ++ [u]) (ls ++ [l]):=by
 refine ⟨by rw [List.length_append,List.length_append,h.1];rfl,fun i hi=>?_⟩;rw [List.length_append,List.length_singleton] at hi
 rcases Nat.lt_or_ge i ls.length with h1 | h1
 ·have e1:(us ++ [u]).getD i (.slice none 0 0)=us.getD i (.slice none 0 0):=by
   rw [List.getD_eq_getElem?_getD,List.getElem?_append_left (by rw [h.1];exact h1),← List.getD_eq_getElem?_getD]
  have e2:(ls ++ [l]).getD i []=ls.getD i []:=by
   rw [List.getD_eq_getElem?_getD,List.getElem?_append_left h1,← List.getD_eq_getElem?_getD]
  rw [e1,e2];exact h.2 i h1
 ·obtain rfl:i=ls.length:=by omega
  have e1:(us ++ [u]).getD ls.length (.slice none 0 0)=u:=by
   rw [List.getD_eq_getElem?_getD,List.getElem?_append_right (by rw [h.1];omega),h.1,Nat.sub_self];rfl
  have e2:(ls ++ [l]).getD ls.length []=l:=by
   rw [List.getD_eq_getElem?_getD,List.getElem?_append_right (Nat.le_refl _),Nat.sub_self];rfl
  rw [e1,e2];exact hu
theorem zgJ:(Tryz.prog.info? 93).map (fun i=>(i.zero,i.size,i.bytes))=some (some (Value.slice none 0 0),1,24):=by kernel_rfl
theorem zgK {w:World} {B:Nat} {v:Value} {l:List ByteArray} (h:z1A w B v l) (hs:∀ x ∈ l,x.size≤maxLen):z2M w B v l:=by
 unfold z2M
 rcases h with ⟨rfl,rfl⟩ | ⟨g,cap,cur,hv,hb,hg,h1,h2,h3,h4⟩
 ·exact ⟨none,0,rfl,Nat.le_refl _,Nat.zero_le _,fun i hi=>absurd hi (Nat.not_lt_zero _)⟩
 ·refine ⟨some ⟨g,0,none⟩,cap,hv,h1,h2,fun i hi=>⟨g,0,rfl,(bL hg),hb,?_,?_⟩⟩
  ·rw [Nat.zero_add,Nat.mul_one,zf hg,h4 i hi];rfl
  ·have:=hs l[i] (List.getElem_mem hi)
   simpa [List.getD,hi] using this
theorem z1A.grown {w w':World} {B base:Nat} {v U:Value} {l:List ByteArray} {m:Nat} {xs:List Value} (h:z1A w B v l) (hU:w.ownsRow base 93 1 U m xs) (k:w.grownBy w' U.ownBlock):z1A w' B v l:=by
 rcases h with h | ⟨g,cap,cur,hv,hb,hg,r⟩
 ·exact .inl h
 ·exact .inr ⟨g,cap,cur,hv,hb,zY hg k (z09 (zo hU hg (by decide))),r⟩
def z2y (w:World) (B:Nat) (us:List Value) (ls:List (List ByteArray)):Prop:=us.length=ls.length∧∀ i,i < ls.length→z1A w B (us.getD i (.slice none 0 0)) (ls.getD i [])
theorem z2y.nil (w:World) (B:Nat):z2y w B [] []:=⟨rfl,fun i hi=>absurd hi (Nat.not_lt_zero i)⟩
theorem z2y.kept {w w':World} {B:Nat} {us:List Value} {ls:List (List ByteArray)} (h:z2y w B us ls) (k:Below w.heap.size w w'):z2y w' B us ls:=⟨h.1,fun i hi=>(h.2 i hi).below k (Nat.le_refl _)⟩
theorem z2y.grown {w w':World} {B base:Nat} {U:Value} {us:List Value} {ls:List (List ByteArray)} {m:Nat} {xs:List Value} (h:z2y w B us ls) (hU:w.ownsRow base 93 1 U m xs) (k:w.grownBy w' U.ownBlock):z2y w' B us ls:=⟨h.1,fun i hi=>(h.2 i hi).grown hU k⟩
theorem z2y.next {w:World} {B:Nat} {us:List Value} {ls:List (List ByteArray)} (h:z2y w B us ls) {u:Value} {l:List ByteArray} (hu:z1A w B u l):z2y w B (us ++ [u]) (ls ++ [l]):=by
 refine ⟨by rw [List.length_append,List.length_append,h.1];rfl,fun i hi=>?_⟩;rw [List.length_append,List.length_singleton] at hi
 rcases Nat.lt_or_ge i ls.length with h1 | h1
 ·have e1:(us ++ [u]).getD i (.slice none 0 0)=us.getD i (.slice none 0 0):=by
   rw [List.getD_eq_getElem?_getD,List.getElem?_append_left (by rw [h.1];exact h1),← List.getD_eq_getElem?_getD]
  have e2:(ls ++ [l]).getD i []=ls.getD i []:=by
   rw [List.getD_eq_getElem?_getD,List.getElem?_append_left h1,← List.getD_eq_getElem?_getD]
  rw [e1,e2];exact h.2 i h1
 ·obtain rfl:i=ls.length:=by omega
  have e1:(us ++ [u]).getD ls.length (.slice none 0 0)=u:=by
   rw [List.getD_eq_getElem?_getD,List.getElem?_append_right (by rw [h.1];omega),h.1,Nat.sub_self];rfl
  have e2:(ls ++ [l]).getD ls.length []=l:=by
   rw [List.getD_eq_getElem?_getD,List.getElem?_append_right (Nat.le_refl _),Nat.sub_self];rfl
  rw [e1,e2];exact hu
theorem z2y.lls {w:World} {B base z:Nat} {v:Value} {us:List Value} {ls:List (List ByteArray)} (h:z2y w B us ls) (hO:w.ownsRow base 93 1 v us.length us) (hz:z≤base) (hzB:z≤B) (hs:∀ l ∈ ls,∀ x ∈ l,x.size≤maxLen):z2x w z v ls:=by
 unfold z2x;have hul:=h.1
 rcases hO.2 with ⟨hv,h0⟩ | ⟨g,cap,cur,hv,hb,hg,h1,h2,h3,h4⟩
 ·exact ⟨none,0,by rw [← hul,h0];exact hv,by omega,Nat.zero_le _,fun i hi=>by omega⟩
 ·refine ⟨some ⟨g,0,none⟩,cap,by rw [← hul];exact hv,by omega,h2,fun i hi=>⟨g,0,rfl,(bL hg),by omega,us.getD i (.slice none 0 0),?_,?_⟩⟩
  ·have:cur.toList[i]?=us[i]?:=(by rw [← h4,List.getElem?_take_of_lt (by omega)]);rw [Nat.zero_add,Nat.mul_one,zf hg,← Array.getElem?_toList,this];simp [List.getD,show i < us.length by omega]
  ·have hl:ls.getD i []=ls[i]:=(by simp [List.getD,hi]);exact (zgK (h.2 i hi) (by rw [hl];exact hs _ (List.getElem_mem hi))).base hzB
end
section
open Go.RowKit
section
variable {P:Program} {ops:Array Oper} {C:World→Prop}
def z7z (ops:Array Oper) (z:Nat):Bool:=(List.range z).all fun i=>(List.range (z+1)).any fun j=>decide (i < j) && z9J ops j i
theorem z8o {z:Nat} {L:Nat→Bool} (hs:z7z ops z=true) (hc:z38 ops L) {o:Oper} (ho:ops[z]?=some o) (ha:∀ e ∈ o.after,Region.binds .any e=true→L e.on=true):∀ n i,z - i≤n→i < z→L i=true
 | 0,i,h,hi=>by omega
 | n+1,i,h,hi=>by
  have h1:=List.all_eq_true.1 hs i (List.mem_range.2 hi);obtain ⟨j,hj,h2⟩:=List.any_eq_true.1 h1;have hjz:=List.mem_range.1 hj;rw [Bool.and_eq_true] at h2;obtain ⟨h3,h4⟩:=h2;have h3:=of_decide_eq_true h3;by_cases e:j=z
  ·subst e;unfold z9J at h4;rw [ho] at h4;simp only [Option.map_some,Option.getD_some,List.any_eq_true,Bool.and_eq_true,beq_iff_eq] at h4;obtain ⟨e,he1,he2,he3⟩:=h4;have:=ha e (by simpa using he1) he2
   rwa [he3] at this
  ·have hLj:=z8o hs hc ho ha n j (by omega) (by omega)
   cases hLi:L i with
   | true=>rfl
   | false=>rw [hc j i h4 hLi] at hLj;cases hLj
theorem z5X {listed:Array Bool} {j:Nat} (h:z38 ops (fun k=>listed.getD k false)) (hj:j ∈ Region.ready .any ops listed):z38 ops (fun k=>(listed.setIfInBounds j true).getD k false):=by
 obtain ⟨h0,o,ho,ha⟩:=mem_ready.1 hj
 have hlt:j < listed.size:=by
  rcases Nat.lt_or_ge j listed.size with h' | h'
  ·exact h'
  ·rw [Array.getD_eq_getD_getElem?,Array.getElem?_eq_none h'] at h0
   cases h0
 rw [z9H hlt];exact h.next ho ha
def z8p (P:Program) (ops:Array Oper) (C:World→Prop) (z:Nat) (R:Act→Prop):Nat→Array Bool→Act→Prop
 | 0,_,_=>False
 | fuel+1,listed,a=>Region.ready .any ops listed ≠ []∧∀ i ∈ Region.ready .any ops listed,if i=z then (fuel=0∧Region.ready .any ops (listed.setIfInBounds z true)=[]∧R a) else qOp P ops C i (z8p P ops C z R fuel (listed.setIfInBounds i true)) a
theorem za1 {Q:Exit→Act→World→Prop} {R:Act→Prop} {z:Nat} (hR:∀ a w,C w→R a→wpOp P ops Q z (fun a' w'=>Q .normal a' w') a w):∀ (fuel:Nat) (listed:Array Bool) (a:Act) (w:World),C w→z8p P ops C z R fuel listed a→wpAny P .any ops Q fuel listed a w
 | 0,_,_,_,_,h=>h.elim
 | fuel+1,listed,a,w,hw,h=>⟨fun h0=>absurd h0 h.1,fun i hi=>by
   have h2:=h.2 i hi;by_cases hz:i=z
   ·rw [if_pos hz] at h2;obtain ⟨h3,hr,hRa⟩:=h2;subst h3;subst hz;exact wpOp_mono (fun a' w' h'=>⟨hr,h'⟩) (hR a w hw hRa)
   ·rw [if_neg hz] at h2;exact wpOp_of_qOp hw (fun a' w' hw'=>za1 hR fuel _ a' w' hw') h2⟩
theorem zd7 {R:Act→Prop} {z i:Nat} {oi:Oper} {v:Value} (hs:z7z ops z=true) (hi:ops[i]?=some oi) (hiz:i < z) (hsel:∀ (j:Nat) (o:Oper) cs b,ops[j]?=some o→o.op ≠ .select cs b) :
  ∀ (fuel:Nat) (listed:Array Bool) (a:Act),z38 ops (fun k=>listed.getD k false) →
   (∀ j oj,ops[j]?=some oj→j ≠ i→listed.getD j true=false→(∀ e ∈ oj.after,Region.binds .any e=true→e.on ≠ i)→oi.apart ops oj=true) →
   i ∈ Region.ready .any ops listed→YieldsIn P ops C oi v a →
   z8p P ops C z R fuel (listed.setIfInBounds i true) (a.put oi.dst v)→z8p P ops C z R (fuel+1) listed a:=by
 intro fuel
 induction fuel with
 | zero=>intro listed a _ _ _ _ H;exact H.elim
 | succ fuel ih =>
  intro listed a hcl hfree hr hy H;refine ⟨fun h=>(by rw [h] at hr;cases hr),fun j hj=>?_⟩;by_cases hji:j=i
  ·rw [if_neg (by omega)];subst hji;exact hy.qOp hi H
  ·have hjz:j ≠ z:=fun e=>by
    subst e;obtain ⟨_,o,ho,ha⟩:=mem_ready.1 hj;have h1:=z8o hs hcl ho ha _ i (Nat.le_refl _) hiz;have h0:=(mem_ready.1 hr).1
    rcases Nat.lt_or_ge i listed.size with h' | h'
    ·simp [h'] at h0 h1;rw [h0] at h1;cases h1
    ·simp [Array.getElem?_eq_none h'] at h1
   rw [if_neg hjz];have h1:=H.2 j (ready_mono hj hji);rw [if_neg hjz] at h1;obtain ⟨hjun,oj,hoj,hall⟩:=mem_ready.1 hj
   have hnot:∀ e ∈ oj.after,Region.binds .any e=true→e.on ≠ i:=fun e he hb heq=>by
    have h1:=hall e he hb;have h0:=(mem_ready.1 hr).1;rw [heq] at h1
    rcases Nat.lt_or_ge i listed.size with h' | h'
    ·simp [h'] at h0 h1;rw [h0] at h1;cases h1
    ·simp [Array.getElem?_eq_none h'] at h1
   have h2:=qOp_put hoj (hfree j oj hoj hji hjun hnot) (fun cs b=>hsel i oi cs b hi) (fun cs b=>hsel j oj cs b hoj) hy h1
   have hfree':∀ k ok,ops[k]?=some ok→k ≠ i→(listed.setIfInBounds j true).getD k true=false →
     (∀ e ∈ ok.after,Region.binds .any e=true→e.on ≠ i)→oi.apart ops ok=true:=fun k ok hk hki hun hno=>by
    refine hfree k ok hk hki ?_ hno;by_cases hjk:j=k
    ·subst hjk;exact hjun
    ·rw [getD_set_ne true hjk] at hun;exact hun
   refine qOp_mono (fun a' h3=>ih (listed.setIfInBounds j true) a' (z5X hcl hj) hfree' (ready_mono hr (Ne.symm hji)) h3.1 ?_) h2;rw [Array.setIfInBounds_comm _ _ hji];exact h3.2
theorem za2 {R:Act→Prop} {z:Nat} (hns:Region.noSelect ops=true) (hs:z7z ops z=true):∀ (l:List Oper) (k:Nat) (listed:Array Bool) (a:Act),k+l.length=z→(∀ j,j < l.length→l[j]?=ops[k+j]?)→z38 ops (fun k=>listed.getD k false) →
  Region.lexFrom .any ops (l.length+1) k listed=true→wpQuiet P ops C R l a→z8p P ops C z R (l.length+1) listed a
 | [],k,listed,a,hk,_,_,hB,h=>by
  simp only [List.length_nil,Region.lexFrom,Bool.and_eq_true] at hB;obtain ⟨⟨hr,_⟩,he⟩:=hB;have hk':k=z:=(by simpa using hk);subst hk';have hr':k ∈ Region.ready .any ops listed:=(by simpa using hr);have he':Region.ready .any ops (listed.setIfInBounds k true)=[]:=(by simpa using he);refine ⟨fun h=>(by rw [h] at hr';cases hr'),fun i hi=>?_⟩;by_cases hik:i=k
  ·rw [if_pos hik];exact ⟨rfl,he',h⟩
  ·have:=ready_mono hi hik;rw [he'] at this
   cases this
 | o :: l,k,listed,a,hk,hl,hcl,hB,h=>by
  have h0:ops[k]?=some o:=(by simpa using (hl 0 (by simp)).symm);simp only [List.length_cons] at hk hB ⊢;rw [Region.lexFrom] at hB;simp only [Bool.and_eq_true] at hB;obtain ⟨⟨hr,hf⟩,hB'⟩:=hB;have hr':k ∈ Region.ready .any ops listed:=(by simpa using hr);have hst:qOp P ops C k (wpQuiet P ops C R l) a:=(by unfold qOp;simp only [h0];exact h);obtain ⟨v,hy,hK⟩:=yieldsIn_of_qOp h0 hst
  exact zd7 hs h0 (by omega) (Region.noSelect_spec hns) (l.length+1) listed a hcl (Region.free_spec h0 hf) hr' hy
   (za2 hns hs l (k+1) _ _ (by omega) (fun j hj=>by have:=hl (j+1) (by simpa using hj);simpa [Nat.add_assoc,Nat.add_comm 1 j] using this) (z5X hcl hr') hB' hK)
end
theorem z1a {P:Program} {id:Nat} {Q:Exit→Act→World→Prop} {a:Act} {w:World} {l:List Oper} (n:Nat) {o:Oper} (hm:P.follows .mixedOrders=true) (hl:l.length=n+1) (ho:l[n]?=some o) (hB:Region.lexB .any l.toArray=true) (hs:z7z l.toArray n=true)
  (h:wpQuiet P l.toArray (fun w'=>∃ p:BW w,w'=p.u) (fun a'=>∀ w',(∃ p:BW w,w'=p.u)→if Region.wanted o (yielded l.toArray a'.tmps)=true then o.wp P a' w' (fun a w=>Q .normal a w) Q else Q .normal (a'.put o.dst undef) w') (l.take n) a):(Code.region id l.toArray true).wp P Q a w:=by
 simp only [Region.lexB,Bool.and_eq_true] at hB;have hlt:(l.take n).length=n:=(by rw [List.length_take];omega);refine wp_region_any hm (za1 (C:=fun w'=>∃ p:BW w,w'=p.u) (z:=n) (R:=fun a'=>∀ w',(∃ p:BW w,w'=p.u)→if Region.wanted o (yielded l.toArray a'.tmps)=true then o.wp P a' w' (fun a w=>Q .normal a w) Q else Q .normal (a'.put o.dst undef) w') ?_ _ _ _ _ ⟨⟨_,z1d (Below.refl _ _)⟩,rfl⟩ ?_)
 ·intro a' w' hw' hR;have h1:=hR w' hw';unfold wpOp;rw [show l.toArray[n]?=some o by simpa using ho];dsimp only
  split
  ·rename_i hw;rw [if_pos hw] at h1;exact .inl h1
  ·rename_i hw;rw [if_neg hw] at h1;exact h1
 ·have:=za2 (P:=P) (C:=fun w'=>∃ p:BW w,w'=p.u) hB.1 hs (l.take n) 0 (Array.replicate l.toArray.size false) a (by omega) (fun j hj=>by rw [hlt] at hj;simp [hj]) (fun j i _ _=>by
   show (Array.replicate l.toArray.size false).getD j false=false;rw [Array.getD_eq_getD_getElem?,Array.getElem?_replicate]
   split <;> rfl) (by rw [hlt,← hl];simpa using hB.2) h
  rw [hlt,← hl] at this
  simpa using this
end
section
open Go.RowKit
theorem za7 (v:Value) (ps:List (Int × Int)) (q:Int) (w:World) {z:Nat} (h:z07 w z v ps) :
  Calls Tryz.prog 145 #[v,.int .i64 q] w fun e w'=>e=.returned (.agg #[.int .i64 (sd ps q).1,.int .i64 (sd ps q).2])∧Below w.heap.size w w':=by
 obtain ⟨a,cap,rfl,hlen⟩:=At.form h;have HI:=Hd (zO q 0 ((ps.length:Int) - 1));unfold maxLen at hlen
 cases hin:inB q 0 ((ps.length:Int) - 1) with
 | false =>
  rw [hin] at HI;rw [z9X hin];clear hin h;go_enter Tryz.func145,Tryz.ntmps145;go_wp2_with fail
  refine (HI.out _).mono ?_;rintro e w1 ⟨rfl,rfl⟩;go_wp2;exact bodyPost_ret (v:=.agg #[.int .i64 0,.int .i64 0]) (by simp [results,Tryz.results145,go_sem]) rfl ⟨rfl,by repeat (first | exact Below.refl _ _ | apply ze)⟩
 | true =>
  rw [hin] at HI;have hk:0≤q∧q≤(ps.length:Int) - 1:=(by simpa [inB] using hin);clear hin;obtain ⟨k,rfl⟩:=Int.eq_ofNat_of_zero_le hk.1;have hkl:k < ps.length:=(by omega);rw [z8h hkl];obtain ⟨b,off,cap',e',hc1,hc2,hbl,hx0,hx1⟩:=At.get h hkl;simp only [Value.slice.injEq,true_and] at e';obtain ⟨rfl,rfl⟩:=e';unfold maxLen at hc2;generalize ps.getD k (0,0)=p at hx0 hx1 ⊢;clear h;go_enter Tryz.func145,Tryz.ntmps145;go_wp2_with fail
  refine (HI.out _).mono ?_;rintro e w1 ⟨rfl,rfl⟩;go_wp2;exact bodyPost_ret (v:=.agg #[.int .i64 p.1,.int .i64 p.2]) (by simp [results,Tryz.results145,go_sem]) rfl ⟨rfl,by repeat (first | exact Below.refl _ _ | apply ze)⟩
theorem zd8 (a b:Value) (W:World):(Instr.field 105 (.agg #[a,b]) 0).run Tryz.prog W=.ok a W:=by
 kernel_rfl
theorem zjQ (a b:Value) (W:World):(Instr.field 105 (.agg #[a,b]) 1).run Tryz.prog W=.ok b W:=by
 kernel_rfl
end
section
open Go.RowKit Go.Shelf Go.Lib Go.Sort
theorem zdM (a b:Int) (w:World):Calls Tryz.prog 165 #[.int .i64 a,.int .i64 b] w fun e w'=>e=.returned (.int .i64 (if a < b then -1 else if b < a then 1 else 0))∧w'=w:=by
 have hn:∀ (x:Int) (W:World),Calls Tryz.prog 170 #[.int .i64 x] W fun e w'=>e=.returned (.bool false)∧w'=W:=fun x W=>by
  have hx:(x != x)=false:=(by simp);go_enter Tryz.func170,Tryz.ntmps170;go_wp2;go_ret;exact ⟨rfl,rfl⟩
 by_cases h1:a < b
 ·rw [if_pos h1];go_enter Tryz.func165,Tryz.ntmps165;go_wp2_with (go_at_call 170;refine (hn _ _).mono ?_;rintro e w' ⟨rfl,rfl⟩)
  go_ret;exact ⟨rfl,rfl⟩
 ·rw [if_neg h1];by_cases h2:b < a
  ·rw [if_pos h2];go_enter Tryz.func165,Tryz.ntmps165;go_wp2_with (go_at_call 170;refine (hn _ _).mono ?_;rintro e w' ⟨rfl,rfl⟩)
   go_ret;exact ⟨rfl,rfl⟩
  ·rw [if_neg h2];go_enter Tryz.func165,Tryz.ntmps165;go_wp2_with (go_at_call 170;refine (hn _ _).mono ?_;rintro e w' ⟨rfl,rfl⟩)
   go_ret;exact ⟨rfl,rfl⟩
theorem zib (x y:Cl) (W:World):Calls Tryz.prog 160 #[.agg #[.int .i64 x.p,.int .i64 x.w,.int .i64 x.o],.agg #[.int .i64 y.p,.int .i64 y.w,.int .i64 y.o]] W fun e w'=>e=.returned (.int .i64 (cfC x y))∧∃ q os',w'=grow (W.drewN q) os':=by
 have hcon:=fun W'=>zdM y.o x.o W';have he:cfC x y=(if y.o < x.o then -1 else if x.o < y.o then 1 else 0):=rfl;rw [he];generalize (if y.o < x.o then (-1:Int) else if x.o < y.o then 1 else 0)=r at hcon;go_enter Tryz.func160,Tryz.ntmps160;go_wp2_with (go_at_call 165;refine (hcon _).mono ?_;rintro e w' ⟨rfl,rfl⟩)
 go_ret;exact ⟨rfl,0,_,by rw [alloc_eq_grow,alloc_eq_grow,grow_grow];rfl⟩
theorem zd9 (blk off size:Nat) (w:World):CmpLays Tryz.prog 160 #[] z1K 3 cfC blk off size w:=fun _ _ _ _ x y=>zib x y _
theorem egC:∀ args w,(callFunc 160 args).run Tryz.prog w=.ok (.enter 160 args) w:=enters_of Tryz.func160 (by kernel_rfl) rfl
theorem z7N (lt:Cl→Cl→Bool) (a:Nat):∀ (j:Nat) (d:Array Cl),(insInner lt a j d).size=d.size
 | 0,d=>by unfold insInner;rfl
 | j+1,d=>by
  unfold insInner
  split
  ·rw [z7N lt a j,size_swp]
  ·rfl
theorem z7O (lt:Cl→Cl→Bool) (a b:Nat):∀ (n i:Nat) (d:Array Cl),b - i=n→(insOuter lt a b i d).size=d.size
 | 0,i,d,hn=>by rw [insOuter_stop _ _ _ _ _ (by omega)]
 | n+1,i,d,hn=>by rw [insOuter_go _ _ _ _ _ (by omega),z7O lt a b n (i+1) _ (by omega),z7N]
theorem zic (d:Array Cl) (a b:Nat):(Sort.insertionSort (ltOf cfC) d a b).size=d.size:=z7O _ _ _ _ _ _ rfl
shelf_lay_g SlLaysF0.n20 Slsf 20 at Tryz 168 as insC
theorem zjl (blk off cap a b:Nat) (d0 d:Array Cl) (w0 w:World) (R:RowK z1K 3 w0 blk off d0) (hs:d0.size=d.size) (S:SWK z1K 3 w0 blk off d w) (hab:a≤b) (hb:b≤d.size) (hsz:d.size < 4611686018427387904) :
  Calls Tryz.prog 168 #[.slice (some ⟨blk,off,none⟩) d.size cap,.int .i64 a,.int .i64 b,.func (.func 160) #[] #[]] w fun e w' =>
   e=.returned (.tuple #[])∧SWK z1K 3 w0 blk off (Sort.insertionSort (ltOf cfC) d a b) w':=by
 have hbl:blk < w.heap.size:=Nat.lt_of_lt_of_le R.hblk S.le;refine (AnyQ.insertionSortCmpFunc insC 3 Tryz.isAgg195 Tryz.sizeOf195 z1K z9e z9f cfC 160 #[] blk off cap a b d w egC (zd9 blk off d.size w) (S.holds R.hblk R.hH (by omega)) hbl hab hb hsz).mono ?_;rintro e w' ⟨rfl,n,os,rfl⟩;exact ⟨rfl,S.on R.hblk n _ os (zic d a b)⟩
end
section
open Go.Sort
structure SwR (a b n:Nat) (d d':Array Cl):Prop where
 size:d'.size=d.size
 left:∀ t,t < n→d'[a+t]! = d[b+t]!
 right:∀ t,t < n→d'[b+t]! = d[a+t]!
 rest:∀ t,(t < a∨a+n≤t)→(t < b∨b+n≤t)→d'[t]! = d[t]!
theorem SwR.zero (a b:Nat) (d:Array Cl):SwR a b 0 d d:=⟨rfl,fun _ h=>absurd h (Nat.not_lt_zero _),fun _ h=>absurd h (Nat.not_lt_zero _),fun _ _ _=>rfl⟩
theorem SwR.next {a b i:Nat} {d dk:Array Cl} (h:SwR a b i d dk) (hab:a+i < b) (hb:b+i < d.size):SwR a b (i+1) d (swp dk (a+i) (b+i)):=by
 have hs:=h.size;refine ⟨by rw [size_swp];exact hs,fun t ht=>?_,fun t ht=>?_,fun t h1 h2=>?_⟩
 ·by_cases e:t=i
  ·subst e;rw [swp_left _ _ _ (by omega) (by omega)];exact h.rest _ (by omega) (by omega)
  ·rw [swp_other _ _ _ _ (by omega) (by omega)];exact h.left t (by omega)
 ·by_cases e:t=i
  ·subst e;rw [swp_right _ _ _ (by omega)];exact h.rest _ (by omega) (by omega)
  ·rw [swp_other _ _ _ _ (by omega) (by omega)];exact h.right t (by omega)
 ·rw [swp_other _ _ _ _ (by omega) (by omega)];exact h.rest t (by omega) (by omega)
theorem ix {d:Array Cl} {i j:Nat} (h:i=j):d[i]! = d[j]! := by rw [h]
structure z0V (a m b:Nat) (d d':Array Cl):Prop where
 size:d'.size=d.size
 low:∀ t,a≤t→t < a+(b - m)→d'[t]! = d[t+(m - a)]!
 high:∀ t,a+(b - m)≤t→t < b→d'[t]! = d[t - (b - m)]!
 rest:∀ t,t < a∨b≤t→d'[t]! = d[t]!
theorem z0V.left_none (m b:Nat) (d:Array Cl):z0V m m b d d :=
 ⟨rfl,fun t _ _=>ix (by omega),fun t h1 h2=>by omega,fun _ _=>rfl⟩
theorem z0V.right_none (a m:Nat) (d:Array Cl):z0V a m m d d :=
 ⟨rfl,fun t h1 h2=>by omega,fun t _ _=>ix (by omega),fun _ _=>rfl⟩
theorem z0V.more {m i j:Nat} {d dk f:Array Cl} (hj:j < i) (hi:i≤m) (h:SwR (m - i) m j d dk) (k:z0V (m - i+j) m (m+j) dk f):z0V (m - i) m (m+j) d f:=by
 refine ⟨k.size.trans h.size,fun t h1 h2=>?_,fun t h1 h2=>?_,fun t h1=>?_⟩
 ·rw [k.rest t (by omega),ix (show t=m - i+(t - (m - i)) by omega),h.left _ (by omega)];exact ix (by omega)
 ·by_cases e:t < m - i+j+j
  ·rw [k.low t (by omega) (by omega),ix (show t+(m - (m - i+j))=m+(t+i - j - m) by omega),h.right _ (by omega)];exact ix (by omega)
  ·rw [k.high t (by omega) (by omega),h.rest _ (by omega) (by omega)]
 ·rw [k.rest t (by omega),h.rest t (by omega) (by omega)]
theorem z0V.less {m i j:Nat} {d dk f:Array Cl} (hj:i < j) (hi:i≤m) (h:SwR (m - i) (m+j - i) i d dk) (k:z0V (m - i) m (m+j - i) dk f):z0V (m - i) m (m+j) d f:=by
 refine ⟨k.size.trans h.size,fun t h1 h2=>?_,fun t h1 h2=>?_,fun t h1=>?_⟩
 ·by_cases e:t < m - i+(j - i)
  ·rw [k.low t (by omega) (by omega),h.rest _ (by omega) (by omega)]
  ·rw [k.high t (by omega) (by omega),ix (show t - (m+j - i - m)=m - i+(t - (j - i) - (m - i)) by omega),h.left _ (by omega)];exact ix (by omega)
 ·rw [k.rest t (by omega),ix (show t=m+j - i+(t - (m+j - i)) by omega),h.right _ (by omega)];exact ix (by omega)
 ·rw [k.rest t (by omega),h.rest t (by omega) (by omega)]
theorem z0V.even {m i:Nat} {d f:Array Cl} (hi:i≤m) (h:SwR (m - i) m i d f):z0V (m - i) m (m+i) d f:=by
 refine ⟨h.size,fun t h1 h2=>?_,fun t h1 h2=>?_,fun t h1=>h.rest t (by omega) (by omega)⟩
 ·rw [ix (show t=m - i+(t - (m - i)) by omega),h.left _ (by omega)];exact ix (by omega)
 ·rw [ix (show t=m+(t - m) by omega),h.right _ (by omega)];exact ix (by omega)
theorem z0V.up {a k:Nat} {d dk:Array Cl} (h:z0V a (a+1) (k+1) d dk) (hk:a≤k) (hs:k+1 < d.size):z0V a (a+1) (k+2) d (swp dk k (k+1)):=by
 have hz:=h.size;refine ⟨by rw [size_swp];exact hz,fun t h1 h2=>?_,fun t h1 h2=>?_,fun t h1=>?_⟩
 ·by_cases e:t=k
  ·subst e;rw [swp_left _ _ _ (by omega) (by omega),h.rest _ (by omega)];exact ix (by omega)
  ·rw [swp_other _ _ _ _ (by omega) (by omega),h.low t (by omega) (by omega)]
 ·obtain rfl:t=k+1:=by omega
  rw [swp_right _ _ _ (by omega),h.high k (by omega) (by omega)];exact ix (by omega)
 ·rw [swp_other _ _ _ _ (by omega) (by omega),h.rest t (by omega)]
theorem z0V.down {m k:Nat} {d dk:Array Cl} (h:z0V (k+1) m (m+1) d dk) (hk:k+1≤m) (hs:m < d.size):z0V k m (m+1) d (swp dk (k+1) k):=by
 have hz:=h.size;refine ⟨by rw [size_swp];exact hz,fun t h1 h2=>?_,fun t h1 h2=>?_,fun t h1=>?_⟩
 ·obtain rfl:t=k:=by omega
  rw [swp_right _ _ _ (by omega),h.low (t+1) (by omega) (by omega)];exact ix (by omega)
 ·by_cases e:t=k+1
  ·subst e;rw [swp_left _ _ _ (by omega) (by omega),h.rest k (by omega)];exact ix (by omega)
  ·rw [swp_other _ _ _ _ (by omega) (by omega),h.high t (by omega) (by omega)]
 ·rw [swp_other _ _ _ _ (by omega) (by omega),h.rest t (by omega)]
theorem z0V.perm {a m b:Nat} {d d':Array Cl} (h:z0V a m b d d') (h1:a≤m) (h2:m≤b) (hb:b≤d.size):PermIn a b d d':=by
 refine ⟨h.size,h.rest,?_⟩;rw [extract_toList _ _ _ (by rw [h.size];exact hb),extract_toList _ _ _ hb]
 have e1:(List.range' a (b - a)).map (fun i=>d'[i]!)=(List.range' m (b - m)).map (fun i=>d[i]!) ++ (List.range' a (m - a)).map (fun i=>d[i]!):=by
  apply List.ext_getElem
  ·simp;omega
  ·intro i g1 g2;simp only [List.length_map,List.length_range'] at g1;by_cases e:i < b - m
   ·rw [List.getElem_append_left (by simpa using e)];simp only [List.getElem_map,List.getElem_range'];rw [h.low _ (by omega) (by omega)];exact ix (by omega)
   ·rw [List.getElem_append_right (by simp;omega)];simp only [List.getElem_map,List.getElem_range',List.length_map,List.length_range'];rw [h.high _ (by omega) (by omega)];exact ix (by omega)
 have e2:(List.range' a (b - a)).map (fun i=>d[i]!)=(List.range' a (m - a)).map (fun i=>d[i]!) ++ (List.range' m (b - m)).map (fun i=>d[i]!):=by
  rw [← List.map_append]
  have e3:List.range' a (b - a)=List.range' a (m - a) ++ List.range' m (b - m):=by
   have:=List.range'_append (s:=a) (m:=m - a) (n:=b - m) (step:=1);rw [show a+1 * (m - a)=m by omega,show m - a+(b - m)=b - a by omega] at this;exact this.symm
  rw [e3]
 rw [e1,e2];exact List.perm_append_comm
def zkm (a m b:Nat) (d:Array Cl):Prop:=∀ x y,a≤x→x < m→m≤y→y < b→d[x]!.p < d[y]!.p
structure z3T (a m b:Nat) (d:Array Cl):Prop where
 l:SortedIn tB a m d
 r:SortedIn tB m b d
 c:zkm a m b d
theorem z5Y {d:Array Cl} {a b i j:Nat} (h:SortedIn tB a b d) (h1:a≤i) (h2:i≤j) (h3:j < b):tB d[j]! d[i]! = false:=by
 rcases Nat.lt_or_eq_of_le h2 with h4 | rfl
 ·exact h i j h1 h4 h3
 ·exact z4e.irrefl _
theorem zaM {a i b:Nat} {d d':Array Cl} (h:z3T a (a+1) b d) (hr:z0V a (a+1) i d d') (hi:a+1≤i) (hib:i≤b)
  (h1:a+1 < i→tB d[i - 1]! d[a]! = true) (h2:i < b→tB d[i]! d[a]! = false):SortedIn tB a b d':=by
 have hx:∀ q,a+1≤q→q < i→tB d[a]! d[q]! = false:=fun q g1 g2 =>
  z4e.ntrans _ d[i - 1]! _ (z6l (h1 (by omega))) (z5Y h.r g1 (by omega) (by omega))
 have hy:∀ q,i≤q→q < b→tB d[q]! d[a]! = false:=fun q g1 g2 =>
  z4e.ntrans _ d[i]! _ (z5Y h.r (by omega) g1 g2) (h2 (by omega))
 intro x y g1 g2 g3;have lo:∀ t,a≤t→t < i - 1→d'[t]! = d[t+1]! := fun t q1 q2=>by rw [hr.low t q1 (by omega)];exact ix (by omega)
 have mi:d'[i - 1]! = d[a]! := by rw [hr.high (i - 1) (by omega) (by omega)];exact ix (by omega)
 have hh:∀ t,i≤t→d'[t]! = d[t]! := fun t q=>hr.rest t (by omega);by_cases e1:y < i - 1
 ·rw [lo x g1 (by omega),lo y (by omega) e1];exact h.r _ _ (by omega) (by omega) (by omega)
 ·by_cases e2:y=i - 1
  ·rw [e2,mi,lo x g1 (by omega)];exact hx _ (by omega) (by omega)
  ·rw [hh y (by omega)];by_cases e3:x < i - 1
   ·rw [lo x g1 e3];exact h.r _ _ (by omega) (by omega) g3
   ·by_cases e4:x=i - 1
    ·rw [e4,mi];exact hy y (by omega) g3
    ·rw [hh x (by omega)];exact h.r _ _ (by omega) g2 g3
theorem za8 {a i m:Nat} {d d':Array Cl} (h:z3T a m (m+1) d) (hr:z0V i m (m+1) d d') (hi:a≤i) (hib:i≤m)
  (h1:a < i→tB d[m]! d[i - 1]! = false) (h2:i < m→tB d[m]! d[i]! = true):SortedIn tB a (m+1) d':=by
 have hx:∀ q,a≤q→q < i→tB d[m]! d[q]! = false:=fun q g1 g2 =>
  z4e.ntrans _ d[i - 1]! _ (h1 (by omega)) (z5Y h.l g1 (by omega) (by omega))
 have hy:∀ q,i≤q→q < m→tB d[q]! d[m]! = false:=fun q g1 g2 =>
  z4e.ntrans _ d[i]! _ (z5Y h.l hi g1 g2) (z6l (h2 (by omega))) |> fun _=>by
   have t1:=z6l (h2 (by omega))
   cases e:tB d[q]! d[m]!
   ·rfl
   ·have:=z4e.trans _ _ _ e (h2 (by omega));rw [z5Y h.l hi g1 g2] at this
    cases this
 intro x y g1 g2 g3;have lo:∀ t,t < i→d'[t]! = d[t]! := fun t q=>hr.rest t (by omega);have mi:d'[i]! = d[m]! := by rw [hr.low i (by omega) (by omega)];exact ix (by omega)
 have hh:∀ t,i < t→t < m+1→d'[t]! = d[t - 1]! := fun t q1 q2=>by rw [hr.high t (by omega) (by omega)];exact ix (by omega)
 by_cases e1:y < i
 ·rw [lo x (by omega),lo y e1];exact h.l _ _ g1 g2 (by omega)
 ·by_cases e2:y=i
  ·rw [e2,mi,lo x (by omega)];exact hx x g1 (by omega)
  ·rw [hh y (by omega) g3];by_cases e3:x < i
   ·rw [lo x e3];exact h.l _ _ g1 (by omega) (by omega)
   ·by_cases e4:x=i
    ·rw [e4,mi];exact hy _ (by omega) (by omega)
    ·rw [hh x (by omega) (by omega)];exact h.l _ _ (by omega) (by omega) (by omega)
end
section
open Go.RowKit Go.Shelf Go.Lib Go.Sort
theorem zjm (k:Nat) (zE:∀ w,(Go.sizeOf 195).run Tryz.prog w=.ok k w) (enc:Cl→List Value) (fv:Value) (blk off cap a b n:Nat) (d0 d:Array Cl) (w0 w:World)
  (R:RowK enc k w0 blk off d0) (hs:d0.size=d.size) (S:SWK enc k w0 blk off d w) (hab:a+n≤b) (hb:b+n≤d.size) (hsz:d.size < 4611686018427387904) :
  Calls Tryz.prog 174 #[.slice (some ⟨blk,off,none⟩) d.size cap,.int .i64 a,.int .i64 b,.int .i64 n,fv] w fun e w'=>e=.returned (.tuple #[])∧∃ d',SwR a b n d d'∧SWK enc k w0 blk off d' w':=by
 have mixed:Tryz.prog.follows Departure.mixedOrders=true:=(by kernel_rfl);have S0:Aside (SWK enc k w0 blk off d w):=S;clear S;go_enter Tryz.func174,Tryz.ntmps174;go_wp2_with fail
 go_loopg [10] n (fun kx s10 wr=>∃ (i:Nat) (dk:Array Cl),s10=.int .i64 i∧i≤n∧n - i≤kx∧dk.size=d.size∧Aside (SWK enc k w0 blk off dk wr)∧Hid (SwR a b i d dk))
 case atStart=>exact ⟨0,d,rfl,Nat.zero_le _,Nat.le_refl _,rfl,S0,SwR.zero a b d⟩
 case round =>
  clear S0;obtain ⟨i,dk,rfl,hin,hkx,hds,S1,HE⟩:=hrel;by_cases hlt:i < n
  ·have hltz:(i:Int) < (n:Int):=(by omega);have ea:((a:Int)+(i:Int)).toNat=a+i:=(by omega);have pa:(0:Int)≤(a:Int)+(i:Int):=(by omega);have ba:(a:Int)+(i:Int) < (d.size:Int):=(by omega);have ra:IntKind.i64.wrap ((a:Int)+(i:Int))=(a:Int)+(i:Int):=(by rw [IntKind.wrap_i64];omega);have ec:((b:Int)+(i:Int)).toNat=b+i:=(by omega);have pc:(0:Int)≤(b:Int)+(i:Int):=(by omega);have bc:(b:Int)+(i:Int) < (d.size:Int):=(by omega);have rc:IntKind.i64.wrap ((b:Int)+(i:Int))=(b:Int)+(i:Int):=(by rw [IntKind.wrap_i64];omega);have S2:Aside (SWK enc k w0 blk off (swp dk (a+i) (b+i)) ((wr.drew.setCells blk (off+(a+i) * k) (enc dk[b+i]!)).setCells blk (off+(b+i) * k) (enc dk[a+i]!))):=S1.out.swapped R (a+i) (b+i) (by omega) (by omega);have la:=S1.out.ld1 R (by omega) Tryz.prog (a+i) (by omega);have lb:=S1.out.ld1 R (by omega) Tryz.prog (b+i) (by omega);have sa:=S1.out.st1 R (by omega) Tryz.prog (a+i) (by omega) dk[b+i]!;have sb:=S1.out.st2 R (by omega) Tryz.prog (a+i) (b+i) (by omega) (by omega) dk[b+i]! dk[a+i]!;have na:(enc dk[a+i]!).length=k:=R.hk _;have nb:(enc dk[b+i]!).length=k:=R.hk _;have HN:=Hd (HE.out.next (show a+i < b by omega) (by omega));generalize enc dk[a+i]! = cI at S2 la sb na;generalize enc dk[b+i]! = cJ at S2 lb sa sb nb;clear S1;go_wp2_with fail
   go_big_region_o
   clear la lb sa sb;generalize (wr.drew.setCells blk (off+(a+i) * k) cJ).setCells blk (off+(b+i) * k) cI=w2 at S2 ⊢;go_wp2;go_roundg (n - (i+1))
   case measure=>omega
   case rel=>exact ⟨i+1,swp dk (a+i) (b+i),by go_num,by omega,Nat.le_refl _,by rw [size_swp];exact hds,S2,HN⟩
  ·obtain rfl:i=n:=by omega
   go_wp2
   go_end0
   exact ⟨rfl,dk,HE.out,S1.out⟩
theorem zkn (k:Nat) (zE:∀ w,(Go.sizeOf 195).run Tryz.prog w=.ok k w) (enc:Cl→List Value) (g:Nat) (cb:Array Value) (blk off cap a m b:Nat) (d0 d:Array Cl) (w0 w:World)
  (R:RowK enc k w0 blk off d0) (hs:d0.size=d.size) (S:SWK enc k w0 blk off d w) (ham:a < m) (hmb:m < b) (hb:b≤d.size) (hsz:d.size < 4611686018427387904) :
  Calls Tryz.prog 173 #[.slice (some ⟨blk,off,none⟩) d.size cap,.int .i64 a,.int .i64 m,.int .i64 b,.func (.func g) #[] cb] w fun e w'=>e=.returned (.tuple #[])∧∃ d',z0V a m b d d'∧SWK enc k w0 blk off d' w':=by
 have HS:Hid (SWK enc k w0 blk off d w):=S;have HC:=Hd (fun a b n dk W h1 h2 h3 h4=>zjm k zE enc (.func (.func g) #[] cb) blk off cap a b n d0 dk w0 W R h1 h2 h3 h4);clear S zE;have e0:((m - a:Nat):Int)=(m:Int) - (a:Int):=(by omega);have e1:((b - m:Nat):Int)=(b:Int) - (m:Int):=(by omega);go_enter Tryz.func173,Tryz.ntmps173;go_wp2_with fail
 go_loopw [10,11] (fun s10 s11 W=>∃ (i j:Nat) (dk:Array Cl),s10=.int .i64 i∧s11=.int .i64 j∧0 < i∧i≤m - a∧0 < j∧j≤b - m∧dk.size=d.size∧Hid (SWK enc k w0 blk off dk W)∧Hid (∀ f,z0V (m - i) m (m+j) dk f→z0V a m b d f)) (fun s10 s11 _=>(intOf s10).toNat+(intOf s11).toNat)
 case atStart=>exact ⟨m - a,b - m,d,by rw [e0],by rw [e1],by omega,Nat.le_refl _,by omega,Nat.le_refl _,rfl,HS,fun f hf=>by rw [show m - (m - a)=a by omega,show m+(b - m)=b by omega] at hf;exact hf⟩
 case round =>
  obtain ⟨i,j,dk,rfl,rfl,hi0,hi,hj0,hj,hds,HK,HF⟩:=hrel;by_cases hij:i=j
  ·subst hij;have hne:((i:Int) != (i:Int))=false:=(by simp);have HW:=HC.out (m - i) m i dk wr (by omega) HK.out (by omega) (by omega) (by omega);have e2:((m - i:Nat):Int)=(m:Int) - (i:Int):=(by omega);rw [e2,hds] at HW;go_wp2_with fail
   refine HW.mono ?_;rintro e w2 ⟨rfl,d2,h2,S2⟩;have HE:=Hd (HF.out d2 (z0V.even (by omega) h2));have HS2:=Hd S2;clear h2 S2;go_wp2
   go_end0
   exact ⟨rfl,d2,HE.out,HS2.out⟩
  ·have hne:((i:Int) != (j:Int))=true:=(by simp;omega);by_cases hlt:j < i
   ·have hltz:(j:Int) < (i:Int):=(by omega);have HW:=HC.out (m - i) m j dk wr (by omega) HK.out (by omega) (by omega) (by omega);have e2:((m - i:Nat):Int)=(m:Int) - (i:Int):=(by omega);rw [e2,hds] at HW;go_wp2_with fail
    refine HW.mono ?_;rintro e w2 ⟨rfl,d2,h2,S2⟩;have hd2:=h2.size;have HE:Hid (∀ f,z0V (m - (i - j)) m (m+j) d2 f→z0V a m b d f):=fun f hf=>HF.out f (z0V.more hlt (by omega) h2 (by rw [show m - i+j=m - (i - j) by omega];exact hf));have HS2:=Hd S2;clear h2 S2;go_wp2;go_roundw
    case rel=>exact ⟨i - j,j,d2,by rw [show ((i - j:Nat):Int)=(i:Int) - (j:Int) by omega],rfl,by omega,by omega,hj0,hj,by omega,HS2,HE⟩
    case measure=>simp [intOf];omega
   ·have hltz:¬ (j:Int) < (i:Int):=(by omega);have HW:=HC.out (m - i) (m+j - i) i dk wr (by omega) HK.out (by omega) (by omega) (by omega);have e2:((m - i:Nat):Int)=(m:Int) - (i:Int):=(by omega);have e3:((m+j - i:Nat):Int)=(m:Int)+(j:Int) - (i:Int):=(by omega);rw [e2,e3,hds] at HW;go_wp2_with fail
    refine HW.mono ?_;rintro e w2 ⟨rfl,d2,h2,S2⟩;have hd2:=h2.size;have HE:Hid (∀ f,z0V (m - i) m (m+(j - i)) d2 f→z0V a m b d f):=fun f hf=>HF.out f (z0V.less (by omega) (by omega) h2 (by rw [show m+j - i=m+(j - i) by omega];exact hf));have HS2:=Hd S2;clear h2 S2;go_wp2;go_roundw
    case rel=>exact ⟨i,j - i,d2,rfl,by rw [show ((j - i:Nat):Int)=(j:Int) - (i:Int) by omega],hi0,hi,by omega,by omega,by omega,HS2,HE⟩
    case measure=>simp [intOf];omega
end
section
open Go.Sort
theorem zgM {a m b s e mid:Nat} {d d1:Array Cl} (h:z3T a m b d) (hr:z0V s m e d d1) (ha:a≤s) (hs:s≤m) (hm:m≤e) (he:e≤b) (hmid:s+e=mid+m)
  (hLo:a < s→e < b→tB d[e]! d[s - 1]! = false) (hHi:s < m→m < e→tB d[e - 1]! d[s]! = true) :
  z3T a s mid d1∧z3T mid e b d1∧∀ x y,a≤x→x < mid→mid≤y→y < b→tB d1[y]! d1[x]! = false:=by
 have p1:∀ t,t < s→d1[t]! = d[t]! := fun t q=>hr.rest t (by omega);have p2:∀ t,s≤t→t < mid→d1[t]! = d[t+(m - s)]! := fun t q1 q2=>hr.low t q1 (by omega);have p3:∀ t,mid≤t→t < e→d1[t]! = d[t - (e - m)]! := fun t q1 q2=>hr.high t (by omega) q2;have p4:∀ t,e≤t→d1[t]! = d[t]! := fun t q=>hr.rest t (by omega);refine ⟨⟨?_,?_,?_⟩,⟨?_,?_,?_⟩,?_⟩
 ·intro x y g1 g2 g3;rw [p1 x (by omega),p1 y g3];exact h.l x y g1 g2 (by omega)
 ·intro x y g1 g2 g3;rw [p2 x g1 (by omega),p2 y (by omega) g3];exact h.r _ _ (by omega) (by omega) (by omega)
 ·intro x y g1 g2 g3 g4;rw [p1 x g2,p2 y g3 g4];exact h.c _ _ g1 (by omega) (by omega) (by omega)
 ·intro x y g1 g2 g3;rw [p3 x g1 (by omega),p3 y (by omega) g3];exact h.l _ _ (by omega) (by omega) (by omega)
 ·intro x y g1 g2 g3;rw [p4 x g1,p4 y (by omega)];exact h.r _ _ (by omega) g2 g3
 ·intro x y g1 g2 g3 g4;rw [p3 x g1 g2,p4 y g3];exact h.c _ _ (by omega) (by omega) (by omega) g4
 ·intro x y g1 g2 g3 g4;by_cases e1:x < s
  ·rw [p1 x e1];by_cases e2:y < e
   ·rw [p3 y g3 e2];exact h.l _ _ g1 (by omega) (by omega)
   ·rw [p4 y (by omega)];exact z4e.ntrans _ d[e]! _ (z5Y h.r hm (by omega) g4) (z4e.ntrans _ d[s - 1]! _ (hLo (by omega) (by omega)) (z5Y h.l g1 (by omega) (by omega)))
  ·rw [p2 x (by omega) g2];by_cases e2:y < e
   ·rw [p3 y g3 e2];have t1:=hHi (by omega) (by omega);have t2:=z5Y h.r (show m≤x+(m - s) by omega) (show x+(m - s)≤e - 1 by omega) (by omega);have t3:=z5Y h.l (show a≤s by omega) (show s≤y - (e - m) by omega) (by omega)
    cases e3:tB d[y - (e - m)]! d[x+(m - s)]!
    ·rfl
    ·exfalso
     have t4:=z4e.ntrans _ _ _ t2 (z6l e3);have t5:=z4e.ntrans _ _ _ t4 t3;rw [t1] at t5
     cases t5
   ·rw [p4 y (by omega)];exact h.r _ _ (by omega) (by omega) g4
theorem z3T.kept {a m b c:Nat} {d d':Array Cl} (h:z3T a m b d) (ham:a≤m) (hp:PermIn c a d d'):z3T a m b d':=by
 have e:∀ t,a≤t→d'[t]! = d[t]! := fun t q=>hp.2.1 t (Or.inr q);refine ⟨fun x y g1 g2 g3=>?_,fun x y g1 g2 g3=>?_,fun x y g1 g2 g3 g4=>?_⟩
 ·rw [e x g1,e y (by omega)];exact h.l x y g1 g2 g3
 ·rw [e x (by omega),e y (by omega)];exact h.r x y g1 g2 g3
 ·rw [e x g1,e y (by omega)];exact h.c x y g1 g2 g3 g4
theorem zbH {a mid b:Nat} {d1 d2 d3:Array Cl} (h1:a≤mid) (h2:mid≤b) (hb:b≤d1.size) (hA:∀ x y,a≤x→x < mid→mid≤y→y < b→tB d1[y]! d1[x]! = false)
  (p2:PermIn a mid d1 d2) (s2:SortedIn tB a mid d2) (p3:PermIn mid b d2 d3) (s3:SortedIn tB mid b d3):PermIn a b d1 d3∧SortedIn tB a b d3:=by
 have z2:=p2.1;refine ⟨permIn_trans _ _ _ a b (permIn_mono _ _ a mid a b (Nat.le_refl _) h2 hb p2) (permIn_mono _ _ mid b a b h1 (Nat.le_refl _) (by omega) p3),fun x y g1 g2 g3=>?_⟩;by_cases e1:y < mid
 ·rw [p3.2.1 x (by omega),p3.2.1 y (by omega)];exact s2 x y g1 g2 e1
 ·by_cases e2:mid≤x
  ·exact s3 x y e2 g2 g3
  ·rw [p3.2.1 x (by omega)];refine permIn_all d2 d3 mid b (fun z=>tB z d2[x]! = false) (by omega) p3 (fun q q1 q2=>?_) y (by omega) g3;show tB d2[q]! d2[x]! = false;rw [p2.2.1 q (by omega)];exact permIn_all d1 d2 a mid (fun z=>tB d1[q]! z=false) (by omega) p2 (fun r r1 r2=>hA r q r1 r2 q1 q2) x g1 (by omega)
end
section
open Go.RowKit Go.Shelf Go.Lib Go.Sort
theorem zid (k:Nat) (zE:∀ w,(Go.sizeOf 195).run Tryz.prog w=.ok k w) (enc:Cl→List Value) (g:Nat) (cb:Array Value) (blk off cap a m b:Nat) (d0 d:Array Cl) (w0 w:World)
  (eg:∀ args w,(callFunc g args).run Tryz.prog w=.ok (.enter g args) w) (hcmp:CmpLays Tryz.prog g cb enc k cfC blk off d0.size w0) (R:RowK enc k w0 blk off d0) (hs:d0.size=d.size) (S:SWK enc k w0 blk off d w) (M:z3T a m b d) (ham:a < m) (hmb:m < b) (hb:b≤d.size) (hsz:d.size < 4611686018427387904) (h1:m=a+1) :
  Calls Tryz.prog 169 #[.slice (some ⟨blk,off,none⟩) d.size cap,.int .i64 a,.int .i64 m,.int .i64 b,.func (.func g) #[] cb] w fun e w'=>e=.returned (.tuple #[])∧∃ d',PermIn a b d d'∧SortedIn tB a b d'∧SWK enc k w0 blk off d' w':=by
 have mixed:Tryz.prog.follows Departure.mixedOrders=true:=(by kernel_rfl);have HC:Aside _:=hcmp;have S0:Aside (SWK enc k w0 blk off d w):=S;have HM:Hid (z3T a m b d):=M;clear S hcmp M;have t1:(((m:Int) - (a:Int)) == 1)=true:=(by simp;omega);have hle:m≤a+1:=(by omega);have H1:=Hd h1;clear h1;go_enter Tryz.func169,Tryz.ntmps169;go_wp2_with fail
 go_loopg [10,11] (b - m) (fun kx s10 s11 wr=>∃ lo hi:Nat,s10=.int .i64 lo∧s11=.int .i64 hi∧m≤lo∧lo≤hi∧hi≤b∧hi - lo≤kx∧Aside (SWK enc k w0 blk off d wr) ∧
  Hid ((m < lo→tB d[lo - 1]! d[a]! = true)∧(hi < b→tB d[hi]! d[a]! = false)))
 case atStart=>exact ⟨m,b,rfl,rfl,Nat.le_refl _,by omega,Nat.le_refl _,Nat.le_refl _,S0,fun h=>absurd h (Nat.lt_irrefl _),fun h=>absurd h (Nat.lt_irrefl _)⟩
 case round =>
  clear S0;obtain ⟨lo,hi,rfl,rfl,h2,h3,h4,h5,S1,I⟩:=hrel;by_cases hlt:lo < hi
  ·obtain ⟨mi,hmi⟩:∃ mi,mi=(lo+hi) / 2:=⟨_,rfl⟩;have em:((lo:Int)+(hi:Int)) / 2=(mi:Int):=(by omega);have m1:lo≤mi:=(by omega);have m2:mi < hi:=(by omega);clear hmi;have hcv:ltOf cfC d[mi]! d[a]! = tB d[mi]! d[a]! := zc3 (HM.out.c a mi (Nat.le_refl _) ham (by omega) (by omega));by_cases hv:cfC d[mi]! d[a]! < 0
   ·have I2:Hid ((m < mi+1→tB d[mi+1 - 1]! d[a]! = true)∧(hi < b→tB d[hi]! d[a]! = false)):=⟨fun _=>by rw [Nat.add_sub_cancel,← hcv];exact decide_eq_true hv,I.out.2⟩;clear hcv;have ea:((mi:Int)).toNat=mi:=(by omega);have pa:(0:Int)≤(mi:Int):=(by omega);have ba:(mi:Int) < (d.size:Int):=(by omega);have ra:IntKind.i64.wrap ((mi:Int))=(mi:Int):=(by rw [IntKind.wrap_i64];omega);have ec:((a:Int)).toNat=a:=(by omega);have pc:(0:Int)≤(a:Int):=(by omega);have bc:(a:Int) < (d.size:Int):=(by omega);have rc:IntKind.i64.wrap ((a:Int))=(a:Int):=(by rw [IntKind.wrap_i64];omega);have la:=S1.out.ld R (by omega) Tryz.prog (mi) (by omega);have lb:=S1.out.ld R (by omega) Tryz.prog (a) (by omega);have hc:=S1.out.cmp HC.out (by omega) d[mi]! d[a]!;generalize d[mi]! = x at hc la hv;generalize d[a]! = y at hc lb hv;have hd:decide (cfC x y < 0)=true:=(by simpa using hv);go_wp2_with fail
    go_quiet_grown (first | (go_at_fn g;refine Calls.grown_of (hc _ _)))
    have S2:Aside (SWK enc k w0 blk off d (grow (wr.drewN nq) osq)):=S1.out.grown nq osq;clear la lb hc S1 hd hv;generalize grow (wr.drewN nq) osq=w2 at S2 ⊢;clear nq osq;go_wp2;go_roundg (hi - (mi+1))
    case measure=>omega
    case rel=>exact ⟨mi+1,hi,by go_num,rfl,by omega,by omega,h4,Nat.le_refl _,S2,I2⟩
   ·have I2:Hid ((m < lo→tB d[lo - 1]! d[a]! = true)∧(mi < b→tB d[mi]! d[a]! = false)):=⟨I.out.1,fun _=>by rw [← hcv];exact decide_eq_false hv⟩;clear hcv;have ea:((mi:Int)).toNat=mi:=(by omega);have pa:(0:Int)≤(mi:Int):=(by omega);have ba:(mi:Int) < (d.size:Int):=(by omega);have ra:IntKind.i64.wrap ((mi:Int))=(mi:Int):=(by rw [IntKind.wrap_i64];omega);have ec:((a:Int)).toNat=a:=(by omega);have pc:(0:Int)≤(a:Int):=(by omega);have bc:(a:Int) < (d.size:Int):=(by omega);have rc:IntKind.i64.wrap ((a:Int))=(a:Int):=(by rw [IntKind.wrap_i64];omega);have la:=S1.out.ld R (by omega) Tryz.prog (mi) (by omega);have lb:=S1.out.ld R (by omega) Tryz.prog (a) (by omega);have hc:=S1.out.cmp HC.out (by omega) d[mi]! d[a]!;generalize d[mi]! = x at hc la hv;generalize d[a]! = y at hc lb hv;have hd:decide (cfC x y < 0)=false:=(by simpa using hv);go_wp2_with fail
    go_quiet_grown (first | (go_at_fn g;refine Calls.grown_of (hc _ _)))
    have S2:Aside (SWK enc k w0 blk off d (grow (wr.drewN nq) osq)):=S1.out.grown nq osq;clear la lb hc S1 hd hv;generalize grow (wr.drewN nq) osq=w2 at S2 ⊢;clear nq osq;go_wp2;go_roundg (mi - lo)
    case measure=>omega
    case rel=>exact ⟨lo,mi,rfl,rfl,h2,m1,by omega,Nat.le_refl _,S2,I2⟩
  ·obtain rfl:hi=lo:=by omega
   clear hlt h5;go_wp2_with fail
   go_loopg [13] (hi - 1 - a) (fun kx s13 wr2=>∃ (q:Nat) (dk:Array Cl),s13=.int .i64 q∧a≤q∧q≤hi - 1∧hi - 1 - q≤kx∧dk.size=d.size∧Aside (SWK enc k w0 blk off dk wr2)∧Hid (z0V a (a+1) (q+1) d dk))
   case atStart=>exact ⟨a,d,rfl,Nat.le_refl _,by omega,Nat.le_refl _,rfl,S1,z0V.right_none a (a+1) d⟩
   case round =>
    clear S1;obtain ⟨q,dk,rfl,g1,g2,g3,hds,S1,HE⟩:=hrel;by_cases hlt:q < hi - 1
    ·have hltz:(q:Int) < (hi:Int) - 1:=(by omega);have HN:=Hd (HE.out.up g1 (by omega));have ea:((q:Int)).toNat=q:=(by omega);have pa:(0:Int)≤(q:Int):=(by omega);have ba:(q:Int) < (d.size:Int):=(by omega);have ra:IntKind.i64.wrap ((q:Int))=(q:Int):=(by rw [IntKind.wrap_i64];omega);have ec:((q:Int)+1).toNat=q+1:=(by omega);have pc:(0:Int)≤(q:Int)+1:=(by omega);have bc:(q:Int)+1 < (d.size:Int):=(by omega);have rc:IntKind.i64.wrap ((q:Int)+1)=(q:Int)+1:=(by rw [IntKind.wrap_i64];omega);have S2:Aside (SWK enc k w0 blk off (swp dk (q) (q+1)) ((wr.drew.setCells blk (off+(q) * k) (enc dk[q+1]!)).setCells blk (off+(q+1) * k) (enc dk[q]!))):=S1.out.swapped R (q) (q+1) (by omega) (by omega);have la:=S1.out.ld1 R (by omega) Tryz.prog (q) (by omega);have lb:=S1.out.ld1 R (by omega) Tryz.prog (q+1) (by omega);have sa:=S1.out.st1 R (by omega) Tryz.prog (q) (by omega) dk[q+1]!;have sb:=S1.out.st2 R (by omega) Tryz.prog (q) (q+1) (by omega) (by omega) dk[q+1]! dk[q]!;have na:(enc dk[q]!).length=k:=R.hk _;have nb:(enc dk[q+1]!).length=k:=R.hk _;generalize enc dk[q]! = cI at S2 la sb na;generalize enc dk[q+1]! = cJ at S2 lb sa sb nb;clear S1;go_wp2_with fail
     go_big_region_o
     clear la lb sa sb;generalize (wr.drew.setCells blk (off+(q) * k) cJ).setCells blk (off+(q+1) * k) cI=w2 at S2 ⊢;go_wp2;go_roundg (hi - 1 - (q+1))
     case measure=>omega
     case rel=>exact ⟨q+1,swp dk q (q+1),by go_num,by omega,by omega,Nat.le_refl _,by rw [size_swp];exact hds,S2,HN⟩
    ·have hltz:¬ (q:Int) < (hi:Int) - 1:=(by omega);obtain rfl:q=hi - 1:=by omega
     have HR:z0V a (a+1) hi d dk:=(by have:=HE.out;rwa [show hi - 1+1=hi by omega] at this)
     have HD:Hid (PermIn a b d dk∧SortedIn tB a b dk):=by
      refine ⟨permIn_mono _ _ a hi a b (Nat.le_refl _) h4 (by omega) (HR.perm (by omega) (by omega) (by omega)),?_⟩;have h1:=H1.out;subst h1;exact zaM HM.out HR (by omega) h4 I.out.1 I.out.2
     clear HR;go_wp2
     (try simp only [Exit.inBlock,Exit.then])
     refine bodyPost_ret (results_none rfl _ _ _) rfl ?_;exact ⟨rfl,dk,HD.out.1,HD.out.2,S1.out⟩
theorem zgN (k:Nat) (zE:∀ w,(Go.sizeOf 195).run Tryz.prog w=.ok k w) (enc:Cl→List Value) (g:Nat) (cb:Array Value) (blk off cap a m b:Nat) (d0 d:Array Cl) (w0 w:World)
  (eg:∀ args w,(callFunc g args).run Tryz.prog w=.ok (.enter g args) w) (hcmp:CmpLays Tryz.prog g cb enc k cfC blk off d0.size w0) (R:RowK enc k w0 blk off d0) (hs:d0.size=d.size) (S:SWK enc k w0 blk off d w) (M:z3T a m b d) (ham:a < m) (hmb:m < b) (hb:b≤d.size) (hsz:d.size < 4611686018427387904) (h0:m ≠ a+1) (h1:b=m+1) :
  Calls Tryz.prog 169 #[.slice (some ⟨blk,off,none⟩) d.size cap,.int .i64 a,.int .i64 m,.int .i64 b,.func (.func g) #[] cb] w fun e w'=>e=.returned (.tuple #[])∧∃ d',PermIn a b d d'∧SortedIn tB a b d'∧SWK enc k w0 blk off d' w':=by
 have mixed:Tryz.prog.follows Departure.mixedOrders=true:=(by kernel_rfl);have HC:Aside _:=hcmp;have S0:Aside (SWK enc k w0 blk off d w):=S;have HM:Hid (z3T a m b d):=M;clear S hcmp M;have t0:(((m:Int) - (a:Int)) == 1)=false:=(by simp;omega);have t1:(((b:Int) - (m:Int)) == 1)=true:=(by simp;omega);have hle:b≤m+1:=(by omega);have H1:=Hd h1;clear h1;go_enter Tryz.func169,Tryz.ntmps169;go_wp2_with fail
 go_loopg [14,15] (m - a) (fun kx s14 s15 wr=>∃ lo hi:Nat,s14=.int .i64 lo∧s15=.int .i64 hi∧a≤lo∧lo≤hi∧hi≤m∧hi - lo≤kx∧Aside (SWK enc k w0 blk off d wr) ∧
  Hid ((a < lo→tB d[m]! d[lo - 1]! = false)∧(hi < m→tB d[m]! d[hi]! = true)))
 case atStart=>exact ⟨a,m,rfl,rfl,Nat.le_refl _,by omega,Nat.le_refl _,Nat.le_refl _,S0,fun h=>absurd h (Nat.lt_irrefl _),fun h=>absurd h (Nat.lt_irrefl _)⟩
 case round =>
  clear S0;obtain ⟨lo,hi,rfl,rfl,h2,h3,h4,h5,S1,I⟩:=hrel;by_cases hlt:lo < hi
  ·obtain ⟨mi,hmi⟩:∃ mi,mi=(lo+hi) / 2:=⟨_,rfl⟩;have em:((lo:Int)+(hi:Int)) / 2=(mi:Int):=(by omega);have m1:lo≤mi:=(by omega);have m2:mi < hi:=(by omega);clear hmi;have hcv:ltOf cfC d[m]! d[mi]! = tB d[m]! d[mi]! := zc3 (HM.out.c mi m (by omega) (by omega) (Nat.le_refl _) hmb);by_cases hv:cfC d[m]! d[mi]! < 0
   ·have I2:Hid ((a < lo→tB d[m]! d[lo - 1]! = false)∧(mi < m→tB d[m]! d[mi]! = true)):=⟨I.out.1,fun _=>by rw [← hcv];exact decide_eq_true hv⟩;clear hcv;have ea:((m:Int)).toNat=m:=(by omega);have pa:(0:Int)≤(m:Int):=(by omega);have ba:(m:Int) < (d.size:Int):=(by omega);have ra:IntKind.i64.wrap ((m:Int))=(m:Int):=(by rw [IntKind.wrap_i64];omega);have ec:((mi:Int)).toNat=mi:=(by omega);have pc:(0:Int)≤(mi:Int):=(by omega);have bc:(mi:Int) < (d.size:Int):=(by omega);have rc:IntKind.i64.wrap ((mi:Int))=(mi:Int):=(by rw [IntKind.wrap_i64];omega);have la:=S1.out.ld R (by omega) Tryz.prog (m) (by omega);have lb:=S1.out.ld R (by omega) Tryz.prog (mi) (by omega);have hc:=S1.out.cmp HC.out (by omega) d[m]! d[mi]!;generalize d[m]! = x at hc la hv;generalize d[mi]! = y at hc lb hv;have hd:decide (cfC x y < 0)=true:=(by simpa using hv);go_wp2_with fail
    go_quiet_grown (first | (go_at_fn g;refine Calls.grown_of (hc _ _)))
    have S2:Aside (SWK enc k w0 blk off d (grow (wr.drewN nq) osq)):=S1.out.grown nq osq;clear la lb hc S1 hd hv;generalize grow (wr.drewN nq) osq=w2 at S2 ⊢;clear nq osq;go_wp2;go_roundg (mi - lo)
    case measure=>omega
    case rel=>exact ⟨lo,mi,rfl,rfl,h2,m1,by omega,Nat.le_refl _,S2,I2⟩
   ·have I2:Hid ((a < mi+1→tB d[m]! d[mi+1 - 1]! = false)∧(hi < m→tB d[m]! d[hi]! = true)):=⟨fun _=>by rw [Nat.add_sub_cancel,← hcv];exact decide_eq_false hv,I.out.2⟩;clear hcv;have ea:((m:Int)).toNat=m:=(by omega);have pa:(0:Int)≤(m:Int):=(by omega);have ba:(m:Int) < (d.size:Int):=(by omega);have ra:IntKind.i64.wrap ((m:Int))=(m:Int):=(by rw [IntKind.wrap_i64];omega);have ec:((mi:Int)).toNat=mi:=(by omega);have pc:(0:Int)≤(mi:Int):=(by omega);have bc:(mi:Int) < (d.size:Int):=(by omega);have rc:IntKind.i64.wrap ((mi:Int))=(mi:Int):=(by rw [IntKind.wrap_i64];omega);have la:=S1.out.ld R (by omega) Tryz.prog (m) (by omega);have lb:=S1.out.ld R (by omega) Tryz.prog (mi) (by omega);have hc:=S1.out.cmp HC.out (by omega) d[m]! d[mi]!;generalize d[m]! = x at hc la hv;generalize d[mi]! = y at hc lb hv;have hd:decide (cfC x y < 0)=false:=(by simpa using hv);go_wp2_with fail
    go_quiet_grown (first | (go_at_fn g;refine Calls.grown_of (hc _ _)))
    have S2:Aside (SWK enc k w0 blk off d (grow (wr.drewN nq) osq)):=S1.out.grown nq osq;clear la lb hc S1 hd hv;generalize grow (wr.drewN nq) osq=w2 at S2 ⊢;clear nq osq;go_wp2;go_roundg (hi - (mi+1))
    case measure=>omega
    case rel=>exact ⟨mi+1,hi,by go_num,rfl,by omega,by omega,h4,Nat.le_refl _,S2,I2⟩
  ·obtain rfl:hi=lo:=by omega
   clear hlt h5;go_wp2_with fail
   go_loopg [17] (m - hi) (fun kx s17 wr2=>∃ (q:Nat) (dk:Array Cl),s17=.int .i64 q∧hi≤q∧q≤m∧q - hi≤kx∧dk.size=d.size∧Aside (SWK enc k w0 blk off dk wr2)∧Hid (z0V q m (m+1) d dk))
   case atStart=>exact ⟨m,d,rfl,h4,Nat.le_refl _,Nat.le_refl _,rfl,S1,z0V.left_none m (m+1) d⟩
   case round =>
    clear S1;obtain ⟨q,dk,rfl,g1,g2,g3,hds,S1,HE⟩:=hrel;by_cases hlt:hi < q
    ·obtain ⟨jp,rfl⟩:∃ jp,q=jp+1:=⟨q - 1,by omega⟩;have hltz:(hi:Int) < (jp:Int)+1:=(by omega);have HN:=Hd (HE.out.down g2 (by omega));have ea:((jp:Int)+1).toNat=jp+1:=(by omega);have pa:(0:Int)≤(jp:Int)+1:=(by omega);have ba:(jp:Int)+1 < (d.size:Int):=(by omega);have ra:IntKind.i64.wrap ((jp:Int)+1)=(jp:Int)+1:=(by rw [IntKind.wrap_i64];omega);have ec:((jp:Int)).toNat=jp:=(by omega);have pc:(0:Int)≤(jp:Int):=(by omega);have bc:(jp:Int) < (d.size:Int):=(by omega);have rc:IntKind.i64.wrap ((jp:Int))=(jp:Int):=(by rw [IntKind.wrap_i64];omega);have S2:Aside (SWK enc k w0 blk off (swp dk (jp+1) (jp)) ((wr.drew.setCells blk (off+(jp+1) * k) (enc dk[jp]!)).setCells blk (off+(jp) * k) (enc dk[jp+1]!))):=S1.out.swapped R (jp+1) (jp) (by omega) (by omega);have la:=S1.out.ld1 R (by omega) Tryz.prog (jp+1) (by omega);have lb:=S1.out.ld1 R (by omega) Tryz.prog (jp) (by omega);have sa:=S1.out.st1 R (by omega) Tryz.prog (jp+1) (by omega) dk[jp]!;have sb:=S1.out.st2 R (by omega) Tryz.prog (jp+1) (jp) (by omega) (by omega) dk[jp]! dk[jp+1]!;have na:(enc dk[jp+1]!).length=k:=R.hk _;have nb:(enc dk[jp]!).length=k:=R.hk _;generalize enc dk[jp+1]! = cI at S2 la sb na;generalize enc dk[jp]! = cJ at S2 lb sa sb nb;clear S1;go_wp2_with fail
     go_big_region_o
     clear la lb sa sb;generalize (wr.drew.setCells blk (off+(jp+1) * k) cJ).setCells blk (off+(jp) * k) cI=w2 at S2 ⊢;go_wp2;go_roundg (jp - hi)
     case measure=>omega
     case rel=>exact ⟨jp,swp dk (jp+1) jp,by go_num,by omega,by omega,Nat.le_refl _,by rw [size_swp];exact hds,S2,HN⟩
    ·have hltz:¬ (hi:Int) < (q:Int):=(by omega);obtain rfl:q=hi:=by omega
     have HD:Hid (PermIn a b d dk∧SortedIn tB a b dk):=by
      have h1:=H1.out;subst h1;exact ⟨permIn_mono _ _ q (m+1) a (m+1) h2 (Nat.le_refl _) (by omega) (HE.out.perm (by omega) (by omega) (by omega)),za8 HM.out HE.out h2 h4 I.out.1 I.out.2⟩
     go_wp2
     (try simp only [Exit.inBlock,Exit.then])
     refine bodyPost_ret (results_none rfl _ _ _) rfl ?_;exact ⟨rfl,dk,HD.out.1,HD.out.2,S1.out⟩
end
end Go.Proofs.YtggmjiddadjilahGreat
