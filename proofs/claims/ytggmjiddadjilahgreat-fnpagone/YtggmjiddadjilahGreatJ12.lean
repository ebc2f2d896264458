/-
  PROVED HERE: what a table is in memory, for the other texts of this claim: cells, columns and rows, each in its place; it stays where what was in memory stays. Also: 19 more texts of the same proof.
-/
import Derived.Test.YtggmjiddadjilahGreatJ1
import Derived.Test.YtggmjiddadjilahGreatJ2
import Derived.Lib.SmallJoins
import Derived.BigQuiet
set_option maxRecDepth 1000000
set_option maxHeartbeats 40000000
open Go.Proofs.Tryz
namespace Go.Proofs.YtggmjiddadjilahGreat
open Value (int)
open IntKind (i64)
section
open Go.RowKit
structure C where
 s:ByteArray
 c:Int
 r:Int
 a1:Int
 b1:Int
 a2:Int
 b2:Int
 a3:Int
 b3:Int
 a4:Int
 b4:Int
structure R where
 cells:List C
 whole:Bool
structure T where
 cols:List (Int × Int)
 head:Int
 foot:Int
 rows:List R
 gap:Int
def dC:C:=⟨ByteArray.empty,0,0,0,0,0,0,0,0,0,0⟩
def dR:R:=⟨[],false⟩
def z7W (w:World) (b o:Nat) (x:C):Prop :=
 w.cell? ⟨b,o,none⟩=some (.string x.s)/\w.cell? ⟨b,o+1,none⟩=some (int i64 x.c)/\w.cell? ⟨b,o+2,none⟩=some (int i64 x.r) /\
 w.cell? ⟨b,o+3,none⟩=some (int i64 x.a1)/\w.cell? ⟨b,o+4,none⟩=some (int i64 x.b1)/\w.cell? ⟨b,o+5,none⟩=some (int i64 x.a2)/\w.cell? ⟨b,o+6,none⟩=some (int i64 x.b2) /\
 w.cell? ⟨b,o+7,none⟩=some (int i64 x.a3)/\w.cell? ⟨b,o+8,none⟩=some (int i64 x.b3)/\w.cell? ⟨b,o+9,none⟩=some (int i64 x.a4)/\w.cell? ⟨b,o+10,none⟩=some (int i64 x.b4)
def At (w:World) (z:Nat) (v:Value) (n sz:Nat) (E:Nat->Nat->Nat->Prop):Prop :=
 ∃ (a:Option Addr) (cap:Nat),v=.slice a n cap/\n<=cap/\cap<=maxLen/\∀ i,i < n->∃ b off,a=some ⟨b,off,none⟩/\b < w.heap.size/\z<=b/\E i b (off+i * sz)
def z30 (w:World) (z:Nat) (v:Value) (cs:List C):Prop:=At w z v cs.length 11 (λi b o=>z7W w b o (cs.getD i dC)/\(cs.getD i dC).s.size<=maxLen)
def z09 (w:World) (z:Nat) (v:Value) (ps:List (Int × Int)):Prop:=At w z v ps.length 2 (λi b o=>w.cell? ⟨b,o,none⟩=some (int i64 (ps.getD i (0,0)).1)/\w.cell? ⟨b,o+1,none⟩=some (int i64 (ps.getD i (0,0)).2))
def z05 (w:World) (z:Nat) (v:Value) (rs:List R):Prop:=At w z v rs.length 2 (λi b o=>∃ u,w.cell? ⟨b,o,none⟩=some u/\w.cell? ⟨b,o+1,none⟩=some (.bool (rs.getD i dR).whole)/\z30 w z u (rs.getD i dR).cells)
def z8H (w:World) (z:Nat) (v:Value) (t:T):Prop:=∃ vc vr,v=.agg #[vc,int i64 t.head,int i64 t.foot,vr,int i64 t.gap]/\z09 w z vc t.cols/\z05 w z vr t.rows
structure z0J (z:Nat) (w w':World):Prop where
 size:w.heap.size<=w'.heap.size
 block:∀ k,z<=k->k < w.heap.size->w'.heap[k]?=w.heap[k]?
theorem z0J.of_below {z:Nat} {w w':World} (h:Below w.heap.size w w'):z0J z w w':=⟨h.size,λk _ hk=>h.block k hk⟩
theorem z0J.refl (z:Nat) (w:World):z0J z w w:=⟨lR,λ_ _ _=>rfl⟩
theorem z0J.trans {z:Nat} {a b c:World} (h:z0J z a b) (k:z0J z b c):z0J z a c:=⟨nT h.size k.size,λi h1 h2=>(k.block i h1 (nL h2 h.size)).trans (h.block i h1 h2)⟩
theorem z0J.set {z:Nat} {a w:World} (h:z0J z a w) {p:Addr} (hp:p.block < z) (v:Value):z0J z a (w.setCell p v) :=
 ⟨by simpa [World.setCell] using h.size,λk h1 h2=>(bS (by omega)).trans (h.block k h1 h2)⟩
theorem z0J.alloc {z:Nat} {a w:World} (h:z0J z a w) (o:Obj):z0J z a (w.alloc o):=h.trans (z0J.of_below (ze bR _))
theorem z0J.cell {z:Nat} {w w':World} (h:z0J z w w') {b:Nat} (h1:z<=b) (h2:b < w.heap.size) (p:Nat):w'.cell? ⟨b,p,none⟩=w.cell? ⟨b,p,none⟩:=World.cell?_of_block (w:=w) (a:=⟨b,p,none⟩) (h.block b h1 h2)
theorem At.mono {w w':World} {z z':Nat} {v:Value} {n sz:Nat} {E E':Nat->Nat->Nat->Prop} (h:At w z v n sz E) (hz:w.heap.size<=w'.heap.size) (hzz:z'<=z) (hE:∀ i b o,i < n->b < w.heap.size->z<=b->E i b o->E' i b o):At w' z' v n sz E':=by
 obtain ⟨a,cap,e,h1,h2,hx⟩:=h;refine ⟨a,cap,e,h1,h2,λi hi=>?_⟩;obtain ⟨b,off,ea,hb,hzb,he⟩:=hx i hi;exact ⟨b,off,ea,nL hb hz,nT hzz hzb,hE i b _ hi hb hzb he⟩
theorem z7W.since {w w':World} {z b o:Nat} {x:C} (h:z7W w b o x) (hb:b < w.heap.size) (hz:z<=b) (k:z0J z w w'):z7W w' b o x:=by
 unfold z7W at h |-;simp only [k.cell hz hb];exact h
theorem z30.since {w w':World} {z:Nat} {v:Value} {cs:List C} (h:z30 w z v cs) (k:z0J z w w'):z30 w' z v cs :=
 At.mono h k.size lR (λ_ _ _ _ hb hz he=>⟨he.1.since hb hz k,he.2⟩)
theorem z09.since {w w':World} {z:Nat} {v:Value} {cs:List (Int × Int)} (h:z09 w z v cs) (k:z0J z w w'):z09 w' z v cs :=
 At.mono h k.size lR (λ_ _ _ _ hb hz he=>⟨(k.cell hz hb _).trans he.1,(k.cell hz hb _).trans he.2⟩)
theorem z05.since {w w':World} {z:Nat} {v:Value} {rs:List R} (h:z05 w z v rs) (k:z0J z w w'):z05 w' z v rs :=
 At.mono h k.size lR (λ_ _ _ _ hb hz ⟨u,h1,h2,h3⟩=>⟨u,(k.cell hz hb _).trans h1,(k.cell hz hb _).trans h2,h3.since k⟩)
theorem z8H.since {w w':World} {z:Nat} {v:Value} {t:T} (h:z8H w z v t) (k:z0J z w w'):z8H w' z v t:=by
 obtain ⟨vc,vr,e,h1,h2⟩:=h;exact ⟨vc,vr,e,h1.since k,h2.since k⟩
theorem z30.kept {w w':World} {z:Nat} {v:Value} {cs:List C} (h:z30 w z v cs) (k:Below w.heap.size w w'):z30 w' z v cs:=h.since (.of_below k)
theorem z09.kept {w w':World} {z:Nat} {v:Value} {cs:List (Int × Int)} (h:z09 w z v cs) (k:Below w.heap.size w w'):z09 w' z v cs:=h.since (.of_below k)
theorem z05.kept {w w':World} {z:Nat} {v:Value} {rs:List R} (h:z05 w z v rs) (k:Below w.heap.size w w'):z05 w' z v rs:=h.since (.of_below k)
theorem z8H.kept {w w':World} {z:Nat} {v:Value} {t:T} (h:z8H w z v t) (k:Below w.heap.size w w'):z8H w' z v t:=h.since (.of_below k)
theorem z30.base {w:World} {z z':Nat} {v:Value} {cs:List C} (h:z30 w z v cs) (hz:z'<=z):z30 w z' v cs:=At.mono h lR hz (λ_ _ _ _ _ _ he=>he)
theorem z09.base {w:World} {z z':Nat} {v:Value} {cs:List (Int × Int)} (h:z09 w z v cs) (hz:z'<=z):z09 w z' v cs:=At.mono h lR hz (λ_ _ _ _ _ _ he=>he)
theorem z05.base {w:World} {z z':Nat} {v:Value} {rs:List R} (h:z05 w z v rs) (hz:z'<=z):z05 w z' v rs:=At.mono h lR hz (λ_ _ _ _ _ _ ⟨u,h1,h2,h3⟩=>⟨u,h1,h2,h3.base hz⟩)
theorem At.get {w:World} {z:Nat} {v:Value} {n sz:Nat} {E:Nat->Nat->Nat->Prop} (h:At w z v n sz E) {i:Nat} (hi:i < n):∃ b off cap,v=.slice (some ⟨b,off,none⟩) n cap/\n<=cap/\cap<=maxLen/\b < w.heap.size/\E i b (off+i * sz):=by
 obtain ⟨a,cap,e,h1,h2,hx⟩:=h;obtain ⟨b,off,rfl,hb,_,he⟩:=hx i hi;exact ⟨b,off,cap,e,h1,h2,hb,he⟩
theorem At.form {w:World} {z:Nat} {v:Value} {n sz:Nat} {E:Nat->Nat->Nat->Prop} (h:At w z v n sz E):∃ a cap,v=.slice a n cap/\n<=maxLen:=by
 obtain ⟨a,cap,e,h1,h2,_⟩:=h;exact ⟨a,cap,e,nT h1 h2⟩
def zhQ:List C->Nat
 | []=>0
 | x :: r=>1+x.s.size+zhQ r
def zk1:List R->Nat
 | []=>0
 | x :: r=>1+zhQ x.cells+zk1 r
def zlj (t:T):Nat:=t.cols.length+zk1 t.rows
def zlk (cs:List C) (k:Nat):Nat:=((cs.take k).map (λx=>x.s.size)).sum
def zll (rs:List R) (k:Nat):Nat:=((rs.take k).map (λx=>zhQ x.cells)).sum
theorem z31 (w:World) (p:Addr) (v:Value):(w.setCell p v).heap.size=w.heap.size:=by simp [World.setCell]
theorem zj (w:World) (q:Obj):(w.alloc q).heap[w.heap.size]?=some q:=by show (w.heap.push q)[w.heap.size]?=_;simp
theorem zf {w:World} {g p:Nat} {arr:Array Value} {t:TypeId} (h:w.heap[g]?=some (.cells arr t)):w.cell? ⟨g,p,none⟩=arr[p]?:=Joins.cell_of_block h p
theorem z8I {w:World} {g p:Nat} {arr:Array Value} {t:TypeId} (h:w.heap[g]?=some (.cells arr t)) (hp:p < arr.size):∃ v,w.cell? ⟨g,p,none⟩=some v:=⟨_,(zf h).trans (Array.getElem?_eq_getElem hp)⟩
theorem zS {w:World} {g p:Nat} {arr:Array Value} {t:TypeId} (h:w.heap[g]?=some (.cells arr t)):w.frozen? ⟨g,p,none⟩=false:=Joins.unfrozen_of_block h p
theorem z0s {w:World} {g p:Nat} {arr:Array Value} {t:TypeId} (h:w.heap[g]?=some (.cells arr t)) (v:Value):(w.setCell ⟨g,p,none⟩ v).heap[g]?=some (.cells (arr.setIfInBounds p v) t):=Joins.block_setCell h v
def zlb (n:Int) (m:Nat):Int:=if (m:Int)<=n then n - m else -1
theorem z6Z {a b:Int} (h:a=b):Ending.returned (int i64 a)=.returned (int i64 b):=by rw [h]
def zM (n lo hi:Int):Bool:=decide (lo<=n/\n<=hi)
theorem zV {a b:Bool} (h:a=b):Ending.returned (.bool a)=.returned (.bool b):=by rw [h]
theorem z4E {n lo hi:Int} (h1:lo<=n) (h2:n<=hi):zM n lo hi=true:=by simp [zM,h1,h2]
theorem z33 {n lo hi:Int} (h:¬ (lo<=n/\n<=hi)):zM n lo hi=false:=by simp only [zM,h,decide_false]
theorem zP {w:World} {base:Nat} {e:TypeId} {sz:Nat} {v:Value} {m:Nat} {xs:List Value} (h:w.ownsRow base e sz v m xs):∃ a cap,v=.slice a m cap/\m<=maxLen:=by
 rcases h.2 with ⟨rfl,rfl⟩ | ⟨g,cap,cur,rfl,_,_,h1,h2,_⟩
 ·exact ⟨none,0,rfl,by unfold maxLen;omega⟩
 ·exact ⟨_,cap,rfl,nT h1 h2⟩
theorem z3M {α:Type} (f:α->List Value) (sz:Nat) (hf:∀ x,(f x).length=sz) (l:List α) (i:Nat) (hi:i < l.length) (j:Nat) (hj:j < sz):(l.flatMap f)[i * sz+j]?=(f l[i])[j]?:=by
 induction l generalizing i with
 | nil=>simp at hi
 | cons a t ih =>
  rw [List.flatMap_cons]
  cases i with
  | zero=>rw [List.getElem?_append_left (by rw [hf];omega)];simp
  | succ i =>
   rw [List.getElem?_append_right (by rw [hf,Nat.succ_mul];omega),hf];have e:(i+1) * sz+j - sz=i * sz+j:=(by rw [Nat.succ_mul];omega);rw [e,ih i (by simpa using hi)];simp
theorem z6g {α:Type} (f:α->List Value) (sz:Nat) (hf:∀ x,(f x).length=sz) (l:List α):(l.flatMap f).length=l.length * sz:=by
 induction l with
 | nil=>simp
 | cons a t ih=>rw [List.flatMap_cons,List.length_append,hf,ih,List.length_cons,Nat.succ_mul];omega
theorem z4F {w:World} {base:Nat} {e:TypeId} {sz:Nat} {m:Nat} {xs:List Value} {g cap:Nat} (h:w.ownsRow base e sz (.slice (some ⟨g,0,none⟩) m cap) m xs) {k:Nat} {u:Value} (hk:xs[k]?=some u):w.cell? ⟨g,k,none⟩=some u:=by
 have hl:k < xs.length:=(List.getElem?_eq_some_iff.1 hk).1
 rcases h.2 with ⟨e,_⟩ | ⟨g',cap',cur,e,_,hc,_,_,_,ht⟩
 ·simp at e
 ·simp at e;obtain ⟨rfl,rfl⟩:=e;rw [zf hc,<-Array.getElem?_toList];rw [<-ht,List.getElem?_take_of_lt (by rw [h.1] at hl;exact hl)] at hk;exact hk
theorem z0K {w:World} {g:Nat} {arr:Array Value} {t:TypeId} (h:w.heap[g]?=some (.cells arr t)):∀ j u,arr.toList[j]?=some u->w.cell? ((⟨g,0,none⟩:Addr).add j)=some u:=λj u hu=>by
 have e:(⟨g,0,none⟩:Addr).add j=⟨g,j,none⟩:=(by simp [Addr.add];intro h;exact h.symm);rw [e,zf h,<-Array.getElem?_toList];exact hu
structure Bk (r:Nat) (w w':World):Prop where
 os:w'.os=w.os
 tape:w'.tape=w.tape
 output:w'.output=w.output
 size:w.heap.size<=w'.heap.size
 block:∀ k,k < w.heap.size->k ≠ r->w'.heap[k]?=w.heap[k]?
theorem Bk.refl (r:Nat) (w:World):Bk r w w:=⟨rfl,rfl,rfl,lR,λ_ _ _=>rfl⟩
theorem Bk.trans {r:Nat} {a b c:World} (h:Bk r a b) (k:Bk r b c):Bk r a c :=
 ⟨k.os.trans h.os,k.tape.trans h.tape,k.output.trans h.output,nT h.size k.size,λi hi hr=>(k.block i (nL hi h.size) hr).trans (h.block i hi hr)⟩
theorem Bk.alloc {r:Nat} {a w:World} (h:Bk r a w) (o:Obj):Bk r a (w.alloc o) :=
 h.trans ⟨rfl,rfl,rfl,by simp,λk hk _=>bA hk⟩
theorem Bk.drewN {r:Nat} {a w:World} (h:Bk r a w) (n:Nat):Bk r a (w.drewN n):=⟨h.os,h.tape,h.output,h.size,h.block⟩
theorem Bk.drew {r:Nat} {a w:World} (h:Bk r a w):Bk r a w.drew:=⟨h.os,h.tape,h.output,h.size,h.block⟩
theorem Bk.set {r:Nat} {a w:World} (h:Bk r a w) {p:Addr} (hp:p.block=r\/a.heap.size<=p.block) (u:Value):Bk r a (w.setCell p u) :=
 ⟨h.os,h.tape,h.output,by simpa [World.setCell] using h.size,λk hk hr=>(bS (by omega)).trans (h.block k hk hr)⟩
theorem Bk.below {r:Nat} {w w':World} (h:Bk r w w') {n:Nat} (hn:n<=w.heap.size) (hr:n<=r):Below n w w':=⟨h.os,h.tape,h.output,h.size,λk hk=>h.block k (by omega) (by omega)⟩
theorem Bk.of_below {r:Nat} {w w':World} (h:Below w.heap.size w w'):Bk r w w':=⟨h.os,h.tape,h.output,h.size,λk hk _=>h.block k hk⟩
theorem Bk.cell {r:Nat} {w w':World} (h:Bk r w w') {p:Addr} (hp:p.block < w.heap.size) (hr:p.block ≠ r):w'.cell? p=w.cell? p:=World.cell?_of_block (w:=w) (h.block p.block hp hr)
theorem Bk.frozen {r:Nat} {w w':World} (h:Bk r w w') {p:Addr} (hp:p.block < w.heap.size) (hr:p.block ≠ r):w'.frozen? p=w.frozen? p:=World.frozen?_of_block (w:=w) (h.block p.block hp hr)
theorem Bk.cells {r:Nat} {w w':World} (h:Bk r w w'):(∀ b o,b < w.heap.size->b ≠ r->w'.cell? ⟨b,o,none⟩=w.cell? ⟨b,o,none⟩)/\(∀ b o,b < w.heap.size->b ≠ r->w'.frozen? ⟨b,o,none⟩=w.frozen? ⟨b,o,none⟩) :=
 ⟨λb o h1 h2=>h.cell (p:=⟨b,o,none⟩) h1 h2,λb o h1 h2=>h.frozen (p:=⟨b,o,none⟩) h1 h2⟩
def z2y (x:C):List Value:=[.string x.s,int i64 x.c,int i64 x.r,int i64 x.a1,int i64 x.b1,int i64 x.a2,int i64 x.b2,int i64 x.a3,int i64 x.b3,int i64 x.a4,int i64 x.b4]
def z5B (p:Int × Int):List Value:=[int i64 p.1,int i64 p.2]
def z1T (p:Value × R):List Value:=[p.1,.bool p.2.whole]
def z2Z (w:World) (base:Nat) (u:Value) (cs:List C):Prop:=w.ownsRow base 78 11 u cs.length (cs.flatMap z2y)
def z0z (w:World) (base:Nat) (v:Value) (ps:List (Int × Int)):Prop:=w.ownsRow base 105 2 v ps.length (ps.flatMap z5B)
structure z1c (w:World) (base:Nat) (v:Value) (ur:List (Value × R)):Prop where
 own:w.ownsRow base 49 2 v ur.length (ur.flatMap z1T)
 cells:∀ p ∈ ur,z2Z w base p.1 p.2.cells
 apart:ur.Pairwise λp q=>p.1.ownBlock=none\/p.1.ownBlock ≠ q.1.ownBlock
structure Off (n:Nat) (b1 b2:Option Nat) (w w':World):Prop where
 size:w.heap.size<=w'.heap.size
 block:∀ k,n<=k->k < w.heap.size->some k ≠ b1->some k ≠ b2->w'.heap[k]?=w.heap[k]?
theorem Off.bk {n r:Nat} {b1 b2:Option Nat} {w w':World} (h:Bk r w w') (hr:r < n):Off n b1 b2 w w':=⟨h.size,λk hk hl _ _=>h.block k hl (by omega)⟩
theorem Off.grown {n:Nat} {b1 b2:Option Nat} {w w':World} (h:w.grownBy w' b2):Off n b1 b2 w w':=⟨h.size,λk _ hl _ h2=>h.block k hl h2⟩
theorem Off.set {n g:Nat} {b2:Option Nat} (w:World) (p:Addr) (hp:p.block=g) (v:Value):Off n (some g) b2 w (w.setCell p v):=⟨by simp [World.setCell],λk _ _ h1 _=>bS (λe=>h1 (by rw [e,hp]))⟩
theorem z1Z {w w':World} {base n:Nat} {e:TypeId} {sz:Nat} {v:Value} {m:Nat} {xs:List Value} {b1 b2:Option Nat} (h:w.ownsRow base e sz v m xs) (k:Off n b1 b2 w w') (hn:n<=base) (h1:v.ownBlock=none\/v.ownBlock ≠ b1) (h2:v.ownBlock=none\/v.ownBlock ≠ b2):w'.ownsRow base e sz v m xs :=
 ⟨h.1,h.2.elim Or.inl (λ⟨g,cap,cur,hv,hg,hc,q⟩=>Or.inr ⟨g,cap,cur,hv,hg,(k.block g (by omega) (bL hc)
  (λe=>by subst hv;rcases h1 with h1 | h1 <;> simp [Value.ownBlock] at h1;exact h1 e)
  (λe=>by subst hv;rcases h2 with h2 | h2 <;> simp [Value.ownBlock] at h2;exact h2 e)).trans hc,q⟩)⟩
theorem z6h {w:World} {base base':Nat} {e e':TypeId} {sz sz':Nat} {v v':Value} {m m':Nat} {xs xs':List Value} (h:w.ownsRow base e sz v m xs) (h':w.ownsRow base' e' sz' v' m' xs') (he:e ≠ e'):v.ownBlock=none\/v.ownBlock ≠ v'.ownBlock:=by
 rcases h.2 with ⟨rfl,_⟩ | ⟨g,cap,cur,rfl,_,hc,_⟩
 ·exact .inl rfl
 ·refine .inr (λe1=>?_)
  rcases h'.2 with ⟨rfl,_⟩ | ⟨g',cap',cur',rfl,_,hc',_⟩
  ·simp [Value.ownBlock] at e1
  ·simp [Value.ownBlock] at e1;subst e1;rw [hc] at hc';simp at hc';exact he hc'.2
theorem zt {w:World} {base:Nat} {e e':TypeId} {sz:Nat} {v:Value} {m:Nat} {xs:List Value} {g:Nat} {cur:Array Value} (h:w.ownsRow base e sz v m xs) (h':w.heap[g]?=some (.cells cur e')) (he:e ≠ e'):v.ownBlock=none\/v.ownBlock ≠ some g:=by
 rcases h.2 with ⟨rfl,_⟩ | ⟨g',cap,cur',rfl,_,hc,_⟩
 ·exact .inl rfl
 ·refine .inr (λe1=>?_);simp [Value.ownBlock] at e1;subst e1;rw [hc] at h';simp at h';exact he h'.2
theorem z2d {w:World} {base:Nat} {e:TypeId} {sz:Nat} {v:Value} {m:Nat} {xs:List Value} (h:w.ownsRow base e sz v m xs) {b:Nat} (hb:v.ownBlock=some b):base<=b/\b < w.heap.size:=by
 rcases h.2 with ⟨rfl,_⟩ | ⟨g,cap,cur,rfl,hg,hc,_⟩
 ·simp [Value.ownBlock] at hb
 ·simp [Value.ownBlock] at hb;subst hb;exact ⟨hg,(bL hc)⟩
theorem z5j {w:World} {base base':Nat} {e:TypeId} {sz:Nat} {v:Value} {m:Nat} {xs:List Value} (h:w.ownsRow base e sz v m xs) (hb:base'<=base):w.ownsRow base' e sz v m xs :=
 ⟨h.1,h.2.elim Or.inl (λ⟨g,cap,cur,hv,hg,q⟩=>Or.inr ⟨g,cap,cur,hv,by omega,q⟩)⟩
theorem z1c.off {w w':World} {base n:Nat} {v:Value} {ur:List (Value × R)} {b1 b2:Option Nat} (h:z1c w base v ur) (k:Off n b1 b2 w w') (hn:n<=base) (h1:v.ownBlock=none\/v.ownBlock ≠ b1) (h2:v.ownBlock=none\/v.ownBlock ≠ b2)
  (hc:∀ p ∈ ur,(p.1.ownBlock=none\/p.1.ownBlock ≠ b1)/\(p.1.ownBlock=none\/p.1.ownBlock ≠ b2)):z1c w' base v ur :=
 ⟨z1Z h.own k hn h1 h2,λp hp=>z1Z (h.cells p hp) k hn (hc p hp).1 (hc p hp).2,h.apart⟩
def zkX (v:Value) (b1 b2:Option Nat):Prop:=(v.ownBlock=none\/v.ownBlock ≠ b1)/\(v.ownBlock=none\/v.ownBlock ≠ b2)
theorem z3s {α:Type} {l:List α} {i:Nat} (d:α) (h:i < l.length):l.getD i d=l[i]:=by simp [List.getD,h]
theorem z2Z.at {w:World} {base:Nat} {u:Value} {cs:List C} (h:z2Z w base u cs) (hs:∀ x ∈ cs,x.s.size<=61):z30 w base u cs:=by
 rcases h.2 with ⟨rfl,hn⟩ | ⟨g,cap,cur,rfl,hg,hc,h1,h2,_⟩
 ·exact ⟨none,0,by rw [hn],by omega,by unfold maxLen;omega,λi hi=>by omega⟩
 ·refine ⟨_,cap,rfl,h1,h2,λi hi=>⟨g,0,rfl,(bL hc),hg,?_,?_⟩⟩
  ·have hx:∀ j,j < 11->w.cell? ⟨g,i * 11+j,none⟩=(z2y cs[i])[j]?:=λj hj=>by
    have e:=z3M z2y 11 (λ_=>rfl) cs i hi j hj;rw [z4F h (u:=(z2y cs[i])[j]'(by show j < 11;exact hj)) (by rw [e];simp)];simp
   rw [z3s dC hi,Nat.zero_add];exact ⟨hx 0 (by omega),hx 1 (by omega),hx 2 (by omega),hx 3 (by omega),hx 4 (by omega),hx 5 (by omega),hx 6 (by omega),hx 7 (by omega),hx 8 (by omega),hx 9 (by omega),hx 10 (by omega)⟩
  ·rw [z3s dC hi];have:=hs _ (List.getElem_mem hi);unfold maxLen;omega
theorem z0z.at {w:World} {base:Nat} {u:Value} {ps:List (Int × Int)} (h:z0z w base u ps):z09 w base u ps:=by
 rcases h.2 with ⟨rfl,hn⟩ | ⟨g,cap,cur,rfl,hg,hc,h1,h2,_⟩
 ·exact ⟨none,0,by rw [hn],by omega,by unfold maxLen;omega,λi hi=>by omega⟩
 ·refine ⟨_,cap,rfl,h1,h2,λi hi=>⟨g,0,rfl,(bL hc),hg,?_⟩⟩
  have hx:∀ j,j < 2->w.cell? ⟨g,i * 2+j,none⟩=(z5B ps[i])[j]?:=λj hj=>by
   have e:=z3M z5B 2 (λ_=>rfl) ps i hi j hj;rw [z4F h (u:=(z5B ps[i])[j]'(by show j < 2;exact hj)) (by rw [e];simp)];simp
  dsimp only;rw [z3s (0,0) hi,Nat.zero_add];exact ⟨hx 0 (by omega),hx 1 (by omega)⟩
theorem z1c.at {w:World} {base:Nat} {v:Value} {ur:List (Value × R)} (h:z1c w base v ur) (hs:∀ p ∈ ur,∀ x ∈ p.2.cells,x.s.size<=61):z05 w base v (ur.map (·.2)):=by
 have hl:(ur.map (·.2)).length=ur.length:=(by simp)
 rcases h.own.2 with ⟨rfl,hn⟩ | ⟨g,cap,cur,rfl,hg,hc,h1,h2,_⟩
 ·exact ⟨none,0,by rw [hl,hn],by rw [hl];omega,by unfold maxLen;omega,λi hi=>by rw [hl] at hi;omega⟩
 ·refine ⟨_,cap,by rw [hl],by rw [hl];exact h1,h2,λi hi=>⟨g,0,rfl,(bL hc),hg,?_⟩⟩;rw [hl] at hi
  have hx:∀ j,j < 2->w.cell? ⟨g,i * 2+j,none⟩=(z1T ur[i])[j]?:=λj hj=>by
   have e:=z3M z1T 2 (λ_=>rfl) ur i hi j hj;rw [z4F h.own (u:=(z1T ur[i])[j]'(by show j < 2;exact hj)) (by rw [e];simp)];simp
  have hm:=List.getElem_mem hi;dsimp only;rw [z3s dR (by rw [hl];exact hi),Nat.zero_add,List.getElem_map];exact ⟨ur[i].1,hx 0 (by omega),hx 1 (by omega),(h.cells _ hm).at (hs _ hm)⟩
theorem z1c.base {w:World} {base base':Nat} {v:Value} {ur:List (Value × R)} (h:z1c w base v ur) (hb:base'<=base):z1c w base' v ur:=⟨z5j h.own hb,λp hp=>z5j (h.cells p hp) hb,h.apart⟩
def Rd (w:World) (r B:Nat):Prop :=
 ∃ (a:Option Addr) (len cap p:Nat),p<=B/\len<=2000/\w.heap[r]?=some (.cells #[.slice a len cap,.int .i64 p] 101) /\
  ∀ i,i < len->∃ (b off:Nat) (z:Int),a=some ⟨b,off,none⟩/\b < r/\w.cell? ⟨b,off+i,none⟩=some (.int .u8 z)/\0<=z/\z<=255
theorem Rd.lt {w:World} {r B:Nat} (h:Rd w r B):r < w.heap.size:=by
 obtain ⟨a,len,cap,p,_,_,hb,_⟩:=h;exact (bL hb)
theorem Rd.mono {w:World} {r B B':Nat} (h:Rd w r B) (hB:B<=B'):Rd w r B':=by
 obtain ⟨a,len,cap,p,h1,h⟩:=h;exact ⟨a,len,cap,p,by omega,h⟩
theorem Rd.kept {w w':World} {r B:Nat} (h:Rd w r B) (hb:Below w.heap.size w w'):Rd w' r B:=by
 have hlt:=h.lt;obtain ⟨a,len,cap,p,h1,h2,hk,hc⟩:=h;refine ⟨a,len,cap,p,h1,h2,(hb.block r hlt).trans hk,λi hi=>?_⟩;obtain ⟨b,off,z,e,l,c,z0,z1⟩:=hc i hi;exact ⟨b,off,z,e,l,(hb.cell (p:=⟨b,off+i,none⟩) (Nat.lt_trans l hlt)).trans c,z0,z1⟩
theorem Rd.keep {w w':World} {r B:Nat} (h:Rd w r B) (hk:∀ k,k<=r->w'.heap[k]?=w.heap[k]?):Rd w' r B:=by
 obtain ⟨a,len,cap,p,h1,h2,hb,hc⟩:=h;refine ⟨a,len,cap,p,h1,h2,(hk r lR).trans hb,λi hi=>?_⟩;obtain ⟨b,off,z,e,l,c,z0,z1⟩:=hc i hi;exact ⟨b,off,z,e,l,(World.cell?_of_block (w:=w) (a:=⟨b,off+i,none⟩) (hk b (Nat.le_of_lt l))).trans c,z0,z1⟩
theorem Rd.alloc {w:World} {r B:Nat} (h:Rd w r B) (o:Obj):Rd (w.alloc o) r B:=h.kept (ze bR _)
theorem Rd.set {w:World} {r B:Nat} (h:Rd w r B) {p:Addr} (hp:r < p.block) (u:Value):Rd (w.setCell p u) r B:=h.keep (λ_ hk=>bS (by omega))
theorem Rd.drew {w:World} {r B:Nat} (h:Rd w r B):Rd w.drew r B:=h.kept (z0X bR)
def InR (n k:Int):Prop:=1<=n->0<=k/\k < n
theorem zaG (a b:Int) (h1:0<=a) (h2:a < 4611686018427387904) (h3:0<=b) (h4:b < 4611686018427387904):0<=bits .xor .i64 a b:=by
 obtain ⟨A,rfl⟩:=Int.eq_ofNat_of_zero_le h1;obtain ⟨B,rfl⟩:=Int.eq_ofNat_of_zero_le h3;have hx:A ^^^ B < 2 ^ 62:=Nat.xor_lt_two_pow (by omega) (by omega);have e:bits .xor .i64 (A:Int) (B:Int)=IntKind.i64.wrap ((BitVec.ofInt 64 (A:Int) ^^^ BitVec.ofInt 64 (B:Int)).toNat:Int):=rfl;rw [e,BitVec.toNat_xor,ofInt_u64 A (by omega),ofInt_u64 B (by omega)];simp [IntKind.wrap,IntKind.bits,IntKind.signed];omega
theorem z6z {x:Int} (h1:0<=x) (h2:x < 4611686018427387904):wrap64 x=x:=by unfold wrap64;omega
theorem zfX (n z y:Int) (p len:Nat) (hn:1<=n) (hp:p<=1000000) (z0:0<=z) (z1:z<=255) (y0:0<=y) (y1:y<=255) :
  InR n ((bits BinOp.xor IntKind.i64 (wrap64 (z * 131+y * 1117+(p:Int) * 29+wrap64 (wrap64 ((p:Int) / (len:Int)) * 53)))
   (wrap64 ((wrap64 (z * 131+y * 1117+(p:Int) * 29+wrap64 (wrap64 ((p:Int) / (len:Int)) * 53))).tdiv 64))).tmod n):=by
 have q0:0<=(p:Int) / (len:Int):=Int.ediv_nonneg (by omega) (by omega);have q1:(p:Int) / (len:Int)<=p:=Int.ediv_le_self _ (by omega);generalize (p:Int) / (len:Int)=q at q0 q1 |-;rw [z6z q0 (by omega),z6z (x:=q * 53) (by omega) (by omega),z6z (x:=z * 131+y * 1117+(p:Int) * 29+q * 53) (by omega) (by omega)];have X0:0<=z * 131+y * 1117+(p:Int) * 29+q * 53:=(by omega);have X1:z * 131+y * 1117+(p:Int) * 29+q * 53 < 4611686018427387904:=(by omega);generalize z * 131+y * 1117+(p:Int) * 29+q * 53=X at X0 X1 |-;rw [Int.tdiv_eq_ediv_of_nonneg X0,z6z (x:=X / 64) (by omega) (by omega)];have hx:=zaG X (X / 64) X0 X1 (by omega) (by omega);generalize bits BinOp.xor IntKind.i64 X (X / 64)=Y at hx |-;intro _;rw [Int.tmod_eq_emod_of_nonneg hx];exact ⟨Int.emod_nonneg _ (by omega),Int.emod_lt_of_pos _ (by omega)⟩
theorem zjc {w:World} {r B:Nat} {a:Option Addr} {len cap p:Nat} (hp:p<=B) (hl:len<=2000) (hk:w.heap[r]?=some (.cells #[.slice a len cap,.int .i64 p] 101))
  (hc:∀ i,i < len->∃ (b off:Nat) (z:Int),a=some ⟨b,off,none⟩/\b < r/\w.cell? ⟨b,off+i,none⟩=some (.int .u8 z)/\0<=z/\z<=255) :
  Rd (w.setCell ⟨r,1,none⟩ (.int .i64 ((p:Int)+1))) r (B+1)/\Bk r w (w.setCell ⟨r,1,none⟩ (.int .i64 ((p:Int)+1))):=by
 have bk:Bk r w (w.setCell ⟨r,1,none⟩ (.int .i64 ((p:Int)+1))):=(Bk.refl r w).set (Or.inl rfl) _;refine ⟨⟨a,len,cap,p+1,by omega,hl,?_,λi hi=>?_⟩,bk⟩
 ·rw [Joins.block_setCell hk];simp
 ·obtain ⟨b,off,z,e,l,c,z0,z1⟩:=hc i hi;exact ⟨b,off,z,e,l,(bk.cell (p:=⟨b,off+i,none⟩) (Nat.lt_trans l (bL hk)) (Nat.ne_of_lt l)).trans c,z0,z1⟩
theorem Rd.draws {w:World} {r B:Nat} (h:Rd w r B) (n:Nat):Rd (w.drewN n) r B:=h.kept (z4a bR n)
theorem zC (r B:Nat) (n:Int) (w:World) (h:Rd w r B) (hB:B<=1000000) :
  Calls prog 59 #[.pointer (some ⟨r,0,none⟩),.int .i64 n] w λe w'=>∃ k:Int,e=.returned (.int .i64 k)/\InR n k/\Rd w' r (B+1)/\Bk r w w':=by
 have hlt:=h.lt;obtain ⟨a,len,cap,p,hp,hl,hk,hc⟩:=h;have c0:w.cell? ⟨r,0,none⟩=some (.slice a len cap):=(by simp [World.cell?,hk]);have c1:w.cell? ⟨r,1,none⟩=some (.int .i64 p):=(by simp [World.cell?,hk]);have f1:w.frozen? ⟨r,1,none⟩=false:=(by simp [World.frozen?,hk]);obtain ⟨N1,N2⟩:=zjc hp hl hk hc;have HN1:Hid (Rd (w.setCell ⟨r,1,none⟩ (.int .i64 ((p:Int)+1))) r (B+1)):=N1;have HN2:Hid (Bk r w (w.setCell ⟨r,1,none⟩ (.int .i64 ((p:Int)+1)))):=N2;clear N1 N2 hk;by_cases hn:n < 1
 ·as_aux_lemma =>
   clear hc;go_enter func59,ntmps59;go_wp2;go_ret;exact ⟨0,rfl,λh=>absurd h (by omega),HN1.out,HN2.out⟩
 by_cases hz:len=0
 ·as_aux_lemma =>
   have hz':((len:Int) == 0)=true:=beq_iff_eq.2 (by omega);clear hc hz;go_enter func59,ntmps59;go_wp2;go_ret;exact ⟨0,rfl,λh=>by omega,HN1.out,HN2.out⟩
 have hz':((len:Int) == 0)=false:=beq_eq_false_iff_ne.2 (by omega);have hn1:1<=n:=(by omega);by_cases hpl:p < len
 ·as_aux_lemma =>
   obtain ⟨b,off,z,rfl,hbr0,hcz,hz0,hz1⟩:=hc p hpl;have hbr:b ≠ r:=(by omega);have hbl:b < w.heap.size:=(by omega);have c2:∀ v,(w.setCell ⟨r,1,none⟩ v).cell? ⟨b,off+p,none⟩=some (.int .u8 z):=λv=>((Bk.refl r w).set (p:=⟨r,1,none⟩) (Or.inl rfl) v).cell (p:=⟨b,off+p,none⟩) hbl hbr |>.trans hcz;clear hc hcz hz hbl;go_enter func59,ntmps59;go_wp2;go_ret;exact ⟨_,rfl,λ_=>⟨Int.emod_nonneg _ (by omega),Int.emod_lt_of_pos _ (by omega)⟩,HN1.out,HN2.out⟩
 ·as_aux_lemma =>
   have hm1:p % len < len:=Nat.mod_lt _ (by omega);have hm2:(p * 7+3) % len < len:=Nat.mod_lt _ (by omega);obtain ⟨b,off,z,rfl,hbr0,hcz,hz0,hz1⟩:=hc _ hm1;have hbr:b ≠ r:=(by omega);have hbl:b < w.heap.size:=(by omega);obtain ⟨b',off',y,e',hbr',hcy,hy0,hy1⟩:=hc _ hm2;simp only [Option.some.injEq,Addr.mk.injEq] at e';obtain ⟨rfl,rfl,_⟩:=e';have c2:∀ v,(w.setCell ⟨r,1,none⟩ v).cell? ⟨b,off+p % len,none⟩=some (.int .u8 z):=λv=>((Bk.refl r w).set (p:=⟨r,1,none⟩) (Or.inl rfl) v).cell (p:=⟨b,off+p % len,none⟩) hbl hbr |>.trans hcz;have c3:∀ v,(w.setCell ⟨r,1,none⟩ v).cell? ⟨b,off+(p * 7+3) % len,none⟩=some (.int .u8 y):=λv=>((Bk.refl r w).set (p:=⟨r,1,none⟩) (Or.inl rfl) v).cell (p:=⟨b,off+(p * 7+3) % len,none⟩) hbl hbr |>.trans hcy;have i1:0<=((p:Int) * 7+3) % (len:Int):=Int.emod_nonneg _ (by omega);have i2:((p:Int) * 7+3) % (len:Int) < (len:Int):=Int.emod_lt_of_pos _ (by omega)
   have i3:(((p:Int) * 7+3) % (len:Int)).toNat=(p * 7+3) % len:=by
    have:((p:Int) * 7+3) % (len:Int)=(((p * 7+3) % len:Nat):Int):=(by simp);rw [this,Int.toNat_natCast]
   clear hc hcz hcy hz hbl hbr';go_enter func59,ntmps59;go_wp2;refine wp_region_quiet_lit (by kernel_rfl) (by kernel_rfl) ?_;repeat (go_big_quiet_step (fail))
   refine wpQuiet_nil ?_;intro _ hw';obtain ⟨nq,hw''⟩:=hw';subst hw'';go_wp2;go_ret;refine ⟨_,rfl,?_,HN1.out.draws _,HN2.out.drewN _⟩;exact zfX n z y p len hn1 (by omega) hz0 hz1 hy0 hy1
def z3N (w:World) (a:Option Addr) (len cap:Nat):Prop :=
 len<=cap/\cap<=maxLen/\∀ i,i < len->∃ (b off:Nat) (z:Int),a=some ⟨b,off,none⟩/\b < w.heap.size/\w.cell? ⟨b,off+i,none⟩=some (.int .u8 z)/\0<=z/\z<=255
theorem zeV (w:World):z3N w none 0 0:=⟨lR,nZ,λ_ hi=>absurd hi (Nat.not_lt_zero _)⟩
theorem zc8 {w:World} {b o:Nat} {v:Value} (h:w.cell? ⟨b,o,none⟩=some v):b < w.heap.size:=by
 rcases Nat.lt_or_ge b w.heap.size with h1 | h1
 ·exact h1
 ·simp [World.cell?,Array.getElem?_eq_none h1] at h
theorem zhU {zs:List Int} {i:Nat} (h:i < zs.length):zs.getD i 0 ∈ zs:=by
 have e:zs.getD i 0=zs[i]:=(by simp [List.getD,h]);rw [e];exact List.getElem_mem _
theorem zfY {w:World} {x:Addr} {len cap:Nat} {zs:List Int} (hl:len<=cap) (hm:cap<=maxLen) (hz:zs.length=cap) (hcell:∀ i,i < zs.length->w.cell? (x.add i)=some (.int .u8 (zs.getD i 0)))
  (hw:∀ n ∈ zs,(Lit.int .u8 n).wf=true):z3N w (some x) len cap:=by
 refine ⟨hl,hm,λi hi=>?_⟩;obtain ⟨b,off,rfl,hc⟩:=ints_at hcell (by omega);have hci:=hc i (by omega);have hb:=bounds_u8 (hw _ (zhU (zs:=zs) (i:=i) (by omega)));exact ⟨b,off,_,rfl,zc8 hci,hci,hb.1,hb.2⟩
theorem zeo {w:World} {a:Option Addr} {len cap:Nat} (L:Nat) (hL:L<=len) (h2:L<=2000)
  (hc:∀ i,i < len->∃ (b off:Nat) (z:Int),a=some ⟨b,off,none⟩/\b < w.heap.size/\w.cell? ⟨b,off+i,none⟩=some (.int .u8 z)/\0<=z/\z<=255) :
  Rd (w.alloc (.cells #[.slice a L cap,.int .i64 0] 101)) w.heap.size 0:=by
 refine ⟨a,L,cap,0,lR,h2,?_,λi hi=>?_⟩
 ·show (w.heap.push _)[w.heap.size]?=_;simp
 ·obtain ⟨b,off,z,e,l,c,z0,z1⟩:=hc i (by omega);refine ⟨b,off,z,e,l,?_,z0,z1⟩;exact ((ze (Below.refl w.heap.size w) _).cell (p:=⟨b,off+i,none⟩) l).trans c
theorem zhV (a:Option Addr) (len cap:Nat) (w:World) (h:z3N w a len cap) :
  Calls prog 29 #[.slice a len cap] w λe w'=>e=.returned (.pointer (some ⟨w.heap.size,0,none⟩))/\Rd w' w.heap.size 0/\Below w.heap.size w w':=by
 obtain ⟨h1,h2,hc⟩:=h;unfold maxLen at h2;by_cases hl:(2000:Int) < (len:Int)
 ·go_enter func29,ntmps29;go_wp2;go_ret;exact ⟨rfl,zeo 2000 (by omega) (by omega) hc,ze bR _⟩
 ·go_enter func29,ntmps29;go_wp2;go_ret;exact ⟨rfl,zeo len (by omega) (by omega) hc,ze bR _⟩
end
section
open Go.RowKit
def upd (L:Nat->Bool) (i:Nat):Nat->Bool:=λj=>if j=i then true else L j
theorem zc {L:Nat->Bool} {i j:Nat} (h:(j == i)=false):upd L i j=L j:=by
 unfold upd;rw [if_neg (λe=>by rw [e] at h;simp at h)]
theorem un {L:Nat->Bool} {i j:Nat} {b:Bool} (h:upd L i j=b) (e:(j == i)=false:=by rfl):L j=b:=by rwa [zc e] at h
theorem V {L:Nat->Bool} {i j:Nat} {b:Bool} {P:Prop} (f:L j=b->P) (e:(j == i)=false:=by rfl):upd L i j=b->P:=λh=>f (un h e)
theorem uf {L:Nat->Bool} {i j:Nat} {P:Prop} (h0:L j=false) (e:(j == i)=false:=by rfl):upd L i j=true->P:=λh=>absurd (un h e) (by rw [h0];simp)
theorem ub {L:Nat->Bool} {i j a:Nat} {Q X:Nat->Prop} (f:L j=true->∃ g,Q g/\(L a=false->X g)) (e:(j == i)=false:=by rfl) (e2:(a == i)=false:=by rfl):upd L i j=true->∃ g,Q g/\(upd L i a=false->X g):=λh=>(f (un h e)).elim (λg hg=>⟨g,hg.1,λh2=>hg.2 (un h2 e2)⟩)
theorem e9 {T:Value->Value->Value->Value->Value->Value->Value->Value->Value->Prop} {a b c d e f g h i:Value} (h:T a b c d e f g h i):∃ a b c d e f g h i,T a b c d e f g h i:=⟨_,_,_,_,_,_,_,_,_,h⟩
theorem e10 {T:Value->Value->Value->Value->Value->Value->Value->Value->Value->Value->Prop} {a b c d e f g h i j:Value} (h:T a b c d e f g h i j):∃ a b c d e f g h i j,T a b c d e f g h i j:=⟨_,_,_,_,_,_,_,_,_,_,h⟩
theorem e12 {T:Value->Value->Value->Value->Value->Value->Value->Value->Value->Value->Value->Value->Prop} {a b c d e f g h i j k l:Value} (h:T a b c d e f g h i j k l):∃ a b c d e f g h i j k l,T a b c d e f g h i j k l:=⟨_,_,_,_,_,_,_,_,_,_,_,_,h⟩
theorem e13 {T:Value->Value->Value->Value->Value->Value->Value->Value->Value->Value->Value->Value->Value->Prop} {a b c d e f g h i j k l m:Value} (h:T a b c d e f g h i j k l m):∃ a b c d e f g h i j k l m,T a b c d e f g h i j k l m:=⟨_,_,_,_,_,_,_,_,_,_,_,_,_,h⟩
theorem e14 {T:Value->Value->Value->Value->Value->Value->Value->Value->Value->Value->Value->Value->Value->Value->Prop} {a b c d e f g h i j k l m n:Value} (h:T a b c d e f g h i j k l m n):∃ a b c d e f g h i j k l m n,T a b c d e f g h i j k l m n:=⟨_,_,_,_,_,_,_,_,_,_,_,_,_,_,h⟩
theorem e15 {T:Value->Value->Value->Value->Value->Value->Value->Value->Value->Value->Value->Value->Value->Value->Value->Prop} {a b c d e f g h i j k l m n o:Value} (h:T a b c d e f g h i j k l m n o):∃ a b c d e f g h i j k l m n o,T a b c d e f g h i j k l m n o:=⟨_,_,_,_,_,_,_,_,_,_,_,_,_,_,_,h⟩
theorem e21 {T:Value->Value->Value->Value->Value->Value->Value->Value->Value->Value->Value->Value->Value->Value->Value->Value->Value->Value->Value->Value->Value->Prop} {a b c d e f g h i j k l m n o p q r s t u:Value} (h:T a b c d e f g h i j k l m n o p q r s t u):∃ a b c d e f g h i j k l m n o p q r s t u,T a b c d e f g h i j k l m n o p q r s t u:=⟨_,_,_,_,_,_,_,_,_,_,_,_,_,_,_,_,_,_,_,_,_,h⟩
theorem ug {L:Nat->Bool} {i j:Nat} {b c:Bool} {P:Prop} (h0:L j=b) (e:(j == i)=false:=by rfl) (n:(b == c)=false:=by rfl):upd L i j=c->P:=λh=>by have:=h0.symm.trans (un h e);subst this;cases b <;> cases n
theorem u2 {L:Nat->Bool} {i j a:Nat} {b c:Bool} {P:Prop} (f:L j=b->L a=c->P) (e:(j == i)=false:=by rfl) (e2:(a == i)=false:=by rfl):upd L i j=b->upd L i a=c->P:=λh h2=>f (un h e) (un h2 e2)
theorem n0 {P:Prop} (h:false=true):P:=by cases h
theorem zJ {L:Nat->Bool} {i:Nat}:upd L i i=true:=by simp [upd]
def z9F (ops:Array Oper):Bool:=(List.range ops.size).all λi=>((ops[i]?).map λo=>o.after.all λe=>!Region.binds .any e || decide (e.on < i)).getD true
theorem zfZ {ops:Array Oper} (h:z9F ops=true) {listed:Array Bool} (hs:listed.size=ops.size) (hr:Region.ready .any ops listed=[]):∀ i,i < ops.size->listed.getD i false=true:=by
 intro i
 induction i using Nat.strongRecOn with
 | ind i ih =>
  intro hi
  cases hl:listed.getD i false with
  | true=>rfl
  | false =>
   exfalso
   have ho:ops[i]?=some ops[i]:=Array.getElem?_eq_getElem hi;have h1:=List.all_eq_true.1 h i (List.mem_range.2 hi);rw [ho] at h1;simp only [Option.map_some,Option.getD_some] at h1
   have hm:i ∈ Region.ready .any ops listed:=by
    unfold Region.ready;rw [List.mem_filter];refine ⟨List.mem_range.2 hi,?_⟩
    have h2:listed.getD i true=false:=by
     rw [Array.getD_eq_getD_getElem?,Array.getElem?_eq_getElem (by omega)] at hl |-;exact hl
    rw [h2,ho];simp only [Bool.not_false,Bool.true_and,Option.map_some,Option.getD_some];rw [Array.all_eq_true_iff_forall_mem];intro e he;have h3:=Array.all_eq_true_iff_forall_mem.1 h1 e he
    cases hbn:Region.binds .any e with
    | false=>simp
    | true =>
     rw [hbn] at h3;have h4:e.on < i:=(by simpa using h3);rw [ih e.on h4 (by omega)];simp
   rw [hr] at hm
   cases hm
theorem z9G {listed:Array Bool} {i:Nat} (hi:i < listed.size):(λj=>(listed.setIfInBounds i true).getD j false)=upd (λj=>listed.getD j false) i:=by
 funext j
 unfold upd;rw [Array.getD_eq_getD_getElem?];by_cases h:j=i
 ·subst h;simp [hi]
 ·rw [if_neg h,Array.getElem?_setIfInBounds_ne (Ne.symm h)];exact (Array.getD_eq_getD_getElem? ..).symm
theorem zg0 {l:List Bool} {i:Nat} (h:l[i]?=some false):(l.set i true).count false+1=l.count false:=by
 induction l generalizing i with
 | nil=>simp at h
 | cons a t ih =>
  cases i with
  | zero=>simp at h;subst h;simp
  | succ i =>
   simp at h;have:=ih h;rw [List.set_cons_succ,List.count_cons,List.count_cons];omega
section
variable {P:Program} {ops:Array Oper} {Q:Exit->Act->World->Prop} (J:(Nat->Bool)->Act->World->Prop)
theorem zg1 (hord:z9F ops=true)
  (hs:∀ (L:Nat->Bool) (a:Act) (w:World) (i:Nat) (o:Oper),J L a w->ops[i]?=some o->L i=false->(∀ e ∈ o.after,Region.binds .any e=true->L e.on=true) ->
   ∀ K:Act->World->Prop,(∀ a' w',J (upd L i) a' w'->K a' w')->if Region.wanted o (yielded ops a.tmps)=true then o.wp P a w K Q else K (a.put o.dst undef) w)
  (hd:∀ (L:Nat->Bool) (a:Act) (w:World),J L a w->(∀ i,i < ops.size->L i=true)->Q .normal a w) :
  ∀ (fuel:Nat) (listed:Array Bool) (a:Act) (w:World),listed.size=ops.size->listed.toList.count false<=fuel->J (λj=>listed.getD j false) a w->wpAny P .any ops Q fuel listed a w:=by
 intro fuel
 induction fuel with
 | zero =>
  intro listed a w hsz hc hJ
  have hall:∀ i,i < ops.size->listed.getD i false=true:=by
   intro i hi;have h0:listed.toList.count false=0:=(by omega);have hi':i < listed.size:=(by omega);have:=List.count_eq_zero.1 h0;have hm:listed[i] ∈ listed.toList:=(by simp);rw [Array.getD_eq_getD_getElem?,Array.getElem?_eq_getElem hi',Option.getD_some]
   cases hv:listed[i] with
   | true=>rfl
   | false=>rw [hv] at hm;exact absurd hm this
  refine ⟨?_,hd _ _ _ hJ hall⟩;unfold Region.ready;rw [List.filter_eq_nil_iff];intro i hi;have hi2:=List.mem_range.1 hi;have:=hall i hi2
  have h3:listed.getD i true=true:=by
   rw [Array.getD_eq_getD_getElem?,Array.getElem?_eq_getElem (by omega)] at this |-;exact this
  rw [h3];simp
 | succ fuel ih =>
  intro listed a w hsz hc hJ;refine ⟨λhr=>hd _ _ _ hJ (zfZ hord hsz hr),λi hi=>?_⟩;unfold Region.ready at hi;rw [List.mem_filter] at hi;obtain ⟨h1,h2⟩:=hi;have hlt:=List.mem_range.1 h1;have ho:ops[i]?=some ops[i]:=Array.getElem?_eq_getElem hlt;rw [ho] at h2;simp only [Option.map_some,Option.getD_some,Bool.and_eq_true] at h2;obtain ⟨h3,h4⟩:=h2;have hil:i < listed.size:=(by omega)
  have hv:listed[i]=false:=by
   rw [Array.getD_eq_getD_getElem?,Array.getElem?_eq_getElem hil] at h3
   simpa using h3
  have hfi:listed.getD i false=false:=(by rw [Array.getD_eq_getD_getElem?,Array.getElem?_eq_getElem hil,hv];rfl)
  have hstep:=hs _ a w i ops[i] hJ ho hfi (λe he hb=>by
   have:=Array.all_eq_true_iff_forall_mem.1 h4 e he;rw [hb] at this
   simpa using this) (wpAny P .any ops Q fuel (listed.setIfInBounds i true)) (λa' w' hJ'=>ih _ a' w' (by simpa using hsz) (by
    have:=zg0 (l:=listed.toList) (i:=i) (by rw [Array.getElem?_toList,Array.getElem?_eq_getElem hil,hv]);rw [Array.toList_setIfInBounds]
    omega) (by rw [z9G hil];exact hJ'))
  unfold wpOp;rw [ho];dsimp only
  split
  ·rename_i hw;rw [if_pos hw] at hstep;exact .inl hstep
  ·rename_i hw;rw [if_neg hw] at hstep;exact hstep
theorem z7Q {id:Nat} {a:Act} {w:World} (hm:P.follows .mixedOrders=true) (hord:z9F ops=true)
  (hs:∀ (L:Nat->Bool) (a:Act) (w:World) (i:Nat) (o:Oper),J L a w->ops[i]?=some o->L i=false->(∀ e ∈ o.after,Region.binds .any e=true->L e.on=true) ->
   ∀ K:Act->World->Prop,(∀ a' w',J (upd L i) a' w'->K a' w')->if Region.wanted o (yielded ops a.tmps)=true then o.wp P a w K Q else K (a.put o.dst undef) w)
  (hd:∀ (L:Nat->Bool) (a:Act) (w:World),J L a w->(∀ i,i < ops.size->L i=true)->Q .normal a w)
  (h0:J (λ_=>false) a w.drew):(Code.region id ops true).wp P Q a w:=by
 refine wp_region_any hm (zg1 J hord hs hd _ _ _ _ (by simp) (by simp) ?_)
 have e:(λj=>(Array.replicate ops.size false).getD j false)=λ_=>false:=by
  funext j
  rw [Array.getD_eq_getD_getElem?];by_cases h:j < ops.size <;> simp [h]
 rw [e];exact h0
end
end
section
open Go.RowKit
def Hp (n0:Nat) (w:World) (g:Nat) (o:Obj):Prop:=n0<=g/\w.heap[g]?=some o
theorem Hp.lt {n0 g:Nat} {w:World} {o:Obj} (h:Hp n0 w g o):g < w.heap.size:=(bL h.2)
theorem Hp.bk {n0 g r:Nat} {w w':World} {o:Obj} (h:Hp n0 w g o) (hr:r < n0) (k:Bk r w w'):Hp n0 w' g o:=⟨h.1,(k.block g h.lt (by have:=h.1;omega)).trans h.2⟩
theorem Hp.alloc {n0 g:Nat} {w:World} {o:Obj} (h:Hp n0 w g o) (q:Obj):Hp n0 (w.alloc q) g o:=⟨h.1,(bA h.lt).trans h.2⟩
theorem Hp.new {n0:Nat} {w:World} (h:n0<=w.heap.size) (q:Obj):Hp n0 (w.alloc q) w.heap.size q:=⟨h,by show (w.heap.push q)[w.heap.size]?=_;simp⟩
def PI (lo hi:Int) (u:Value):Prop:=∃ k:Int,u=int i64 k/\lo<=k/\k<=hi
def PS (n:Nat) (u:Value):Prop:=∃ s:ByteArray,u=.string s/\s.size<=n
def PL (n0:Nat) (w:World) (n:Nat) (arr:Array Value) (u:Value):Prop:=∃ g,u=.slice (some ⟨g,0,none⟩) n n/\Hp n0 w g (.cells arr 3)
def PA (n0:Nat) (w:World) (lo hi:Int) (u:Value):Prop:=∃ g k arr,u=.pointer (some ⟨g,k,none⟩)/\Hp n0 w g (.cells arr 3)/\∃ v:Int,arr[k]?=some (int i64 v)/\lo<=v/\v<=hi
theorem PL.bk {n0 n r:Nat} {w w':World} {arr:Array Value} {u:Value} (h:PL n0 w n arr u) (hr:r < n0) (k:Bk r w w'):PL n0 w' n arr u:=by
 obtain ⟨g,e,hg⟩:=h;exact ⟨g,e,hg.bk hr k⟩
theorem PA.bk {n0 r:Nat} {w w':World} {lo hi:Int} {u:Value} (h:PA n0 w lo hi u) (hr:r < n0) (k:Bk r w w'):PA n0 w' lo hi u:=by
 obtain ⟨g,k',arr,e,hg,hv⟩:=h;exact ⟨g,k',arr,e,hg.bk hr k,hv⟩
theorem zD (r:Nat) (w:World) (o:Obj):Bk r w (w.alloc o):=(Bk.refl r w).alloc o
def z7h (ops:Array Oper) (j i:Nat):Bool:=((ops[j]?).map λo=>o.after.toList.any λe=>Region.binds .any e && e.on == i).getD false
def z2Q (ops:Array Oper) (L:Nat->Bool):Prop:=∀ j i,z7h ops j i=true->L i=false->L j=false
theorem Qh {ops:Array Oper} {L:Nat->Bool} (c:z2Q ops L) (j i:Nat) (x:L i=false) (e:z7h ops j i=true:=by kernel_rfl):L j=false:=c j i e x
theorem Fa {w0:Array Edge} {L:Nat->Bool} (h:∀ e ∈ w0,Region.binds .any e=true->L e.on=true) (k:Nat) (m:(⟨k,.data⟩:Edge) ∈ w0:=by simp):L k=true:=h ⟨k,.data⟩ m rfl
def zeW (ops:Array Oper):Nat->List Nat->Nat->Bool
 | j,[],i=>z7h ops j i
 | j,k :: p,i=>z7h ops j k && zeW ops k p i
theorem plI {ops:Array Oper} {L:Nat->Bool} (c:z2Q ops L) {i:Nat} (x:L i=false):∀ (p:List Nat) (j:Nat),zeW ops j p i=true->L j=false
 | [],j,e=>c j i e x
 | k :: p,j,e=>by
  simp only [zeW,Bool.and_eq_true] at e;exact c j k e.1 (plI c x p k e.2)
theorem Pl {ops:Array Oper} {L:Nat->Bool} (c:z2Q ops L) (j:Nat) (p:List Nat) {i:Nat} (x:L i=false) (e:zeW ops j p i=true:=by kernel_rfl):L j=false:=plI c x p j e
theorem z2Q.next {ops:Array Oper} {L:Nat->Bool} (h:z2Q ops L) {k:Nat} {o:Oper} (ho:ops[k]?=some o) (ha:∀ e ∈ o.after,Region.binds .any e=true->L e.on=true):z2Q ops (upd L k):=by
 intro j i he hi;have hik:i ≠ k:=λe=>by subst e;rw [zJ] at hi;cases hi
 have hi':L i=false:=(by simpa [upd,hik] using hi);have hj:=h j i he hi'
 have hjk:j ≠ k:=by
  intro e;subst e;unfold z7h at he;rw [ho] at he;simp only [Option.map_some,Option.getD_some,List.any_eq_true,Bool.and_eq_true,beq_iff_eq] at he;obtain ⟨e,he1,he2,he3⟩:=he;have:=ha e (by simpa using he1) he2;rw [he3,hi'] at this
  cases this
 simpa [upd,hjk] using hj
theorem z0n {P:Program} {ops:Array Oper} {Q:Exit->Act->World->Prop} (J:(Nat->Bool)->Act->World->Prop) {id:Nat} {a:Act} {w:World} (hm:P.follows .mixedOrders=true) (hord:z9F ops=true)
  (hs:∀ (L:Nat->Bool) (a:Act) (w:World) (i:Nat) (o:Oper),J L a w->z2Q ops L->ops[i]?=some o->L i=false->(∀ e ∈ o.after,Region.binds .any e=true->L e.on=true) ->
   ∀ K:Act->World->Prop,(∀ a' w',J (upd L i) a' w'->K a' w')->if Region.wanted o (yielded ops a.tmps)=true then o.wp P a w K Q else K (a.put o.dst undef) w)
  (hd:∀ (L:Nat->Bool) (a:Act) (w:World),J L a w->(∀ i,i < ops.size->L i=true)->Q .normal a w)
  (h0:J (λ_=>false) a w.drew):(Code.region id ops true).wp P Q a w :=
 z7Q (λL a w=>J L a w/\z2Q ops L) hm hord
  (λL a w i o hJ ho hi ha K hK=>hs L a w i o hJ.1 hJ.2 ho hi ha K (λa' w' hJ'=>hK a' w' ⟨hJ',hJ.2.next ho ha⟩))
  (λL a w hJ hall=>hd L a w hJ.1 hall) ⟨h0,λ_ _ _ _=>rfl⟩
end
section

end
section
open Go.RowKit
def PB (n0:Nat) (w:World) (t:TypeId) (m:Nat) (P:Array Value->Prop) (u:Value):Prop:=∃ g arr,u=.slice (some ⟨g,0,none⟩) m m/\Hp n0 w g (.cells arr t)/\P arr
def PP (n0:Nat) (w:World) (t:TypeId) (P:Array Value->Nat->Prop) (u:Value):Prop:=∃ g k arr,u=.pointer (some ⟨g,k,none⟩)/\Hp n0 w g (.cells arr t)/\P arr k
theorem PB.bk {n0 m r:Nat} {w w':World} {t:TypeId} {P:Array Value->Prop} {u:Value} (h:PB n0 w t m P u) (hr:r < n0) (k:Bk r w w'):PB n0 w' t m P u:=by
 obtain ⟨g,arr,e,hg,hp⟩:=h;exact ⟨g,arr,e,hg.bk hr k,hp⟩
theorem PP.bk {n0 r:Nat} {w w':World} {t:TypeId} {P:Array Value->Nat->Prop} {u:Value} (h:PP n0 w t P u) (hr:r < n0) (k:Bk r w w'):PP n0 w' t P u:=by
 obtain ⟨g,i,arr,e,hg,hp⟩:=h;exact ⟨g,i,arr,e,hg.bk hr k,hp⟩
theorem z0P {w w':World} {base r:Nat} {e:TypeId} {sz:Nat} {v:Value} {m:Nat} {xs:List Value} (h:w.ownsRow base e sz v m xs) (k:Bk r w w') (hr:r < base):w'.ownsRow base e sz v m xs :=
 ⟨h.1,h.2.elim Or.inl (λ⟨g,cap,cur,hv,hg,hc,q⟩=>Or.inr ⟨g,cap,cur,hv,hg,(k.block g (bL hc) (by omega)).trans hc,q⟩)⟩
theorem Bk.grown {r:Nat} {a b c:World} {u:Option Nat} (h:Bk r a b) (k:b.grownBy c u) (hu:∀ i,u=some i->a.heap.size<=i):Bk r a c :=
 ⟨k.os.trans h.os,k.tape.trans h.tape,k.output.trans h.output,nT h.size k.size,λi hi hr=>(k.block i (nL hi h.size) (λe=>by have:=hu i e.symm;omega)).trans (h.block i hi hr)⟩
theorem Rd.grown {r B:Nat} {b c:World} {u:Option Nat} (h:Rd b r B) (k:b.grownBy c u) (hu:∀ i,u=some i->r < i):Rd c r B :=
 h.keep (λi hi=>k.block i (Nat.lt_of_le_of_lt hi h.lt) (λe=>by have:=hu i e.symm;omega))
theorem z06 {b c:World} {u:Option Nat} {g:Nat} {o:Obj} (h:b.heap[g]?=some o) (k:b.grownBy c u) (hu:some g ≠ u):c.heap[g]?=some o :=
 (k.block g (bL h) hu).trans h
theorem z0e {v:Value} {g:Nat} (h:v.ownBlock=none\/v.ownBlock ≠ some g):some g ≠ v.ownBlock:=λe=>by
 rcases h with h | h
 ·rw [h] at e;cases e
 ·exact h e.symm
theorem z17 {w:World} {base:Nat} {e e':TypeId} {sz:Nat} {v:Value} {m:Nat} {xs:List Value} {g p:Nat} {cur:Array Value} (h:w.ownsRow base e sz v m xs) (h':w.heap[g]?=some (.cells cur e')) (he:e ≠ e') (u:Value):(w.setCell ⟨g,p,none⟩ u).ownsRow base e sz v m xs :=
 z1Z (n:=base) (b1:=some g) (b2:=none) h (Off.set w ⟨g,p,none⟩ rfl u) lR (zt h h' he) (by cases v.ownBlock <;> simp)
def z7i (n0 tb:Nat) (u:Value) (F:World->Prop):Prop:=∀ w w',F w->Off n0 (some tb) u.ownBlock w w'->F w'
structure BW (w:World) where
 u:World
 h:Below w.heap.size w u
theorem z0H (w:World):Nonempty (BW w):=⟨⟨w,bR⟩⟩
theorem zv {P:Program} {id:Nat} {Q:Exit->Act->World->Prop} {a:Act} {w:World} {l:List Oper} (hm:P.follows .mixedOrders=true) (hB:Region.lexB .any l.toArray=true)
  (h:wpQuiet P l.toArray (λw'=>∃ p:BW w,w'=p.u) (λa'=>∀ w',(∃ p:BW w,w'=p.u)->Q .normal a' w') l a):(Code.region id l.toArray true).wp P Q a w :=
 wp_region_quiet (C:=λw'=>∃ p:BW w,w'=p.u) hm hB ⟨⟨_,z0X bR⟩,rfl⟩ (by simpa using h)
theorem z4z {P:Program} {f:FuncId} {args:Array Value} {w:World} {p:BW w} {v:Value} (h:Calls P f args p.u λe w'=>e=.returned v/\Below p.u.heap.size p.u w') :
  Calls P f args p.u λe w''=>e=.returned v/\∃ p:BW w,w''=p.u :=
 h.mono λ_ _ ⟨he,hb⟩=>⟨he,⟨_,zi p.h hb⟩,rfl⟩
theorem z1U {P:Program} {f:FuncId} {args:Array Value} {w:World} {p:BW w} {v:Value} (h:Calls P f args p.u λe w'=>e=.returned v/\w'=p.u) :
  Calls P f args p.u λe w''=>e=.returned v/\∃ p:BW w,w''=p.u :=
 h.mono λ_ _ ⟨he,hb⟩=>⟨he,p,hb⟩
theorem zm {w:World} {a:Addr} {v:Value} (hb:a.block < w.heap.size) (h:w.cell? a=some v) (p:BW w):p.u.cell? a=some v:=(p.h.cell hb).trans h
theorem zW (n lo hi:Int) (w:World) :
  Calls prog 69 #[int i64 n,int i64 lo,int i64 hi] w λe w'=>e=.returned (.bool (zM n lo hi))/\w'=w:=by
 by_cases h1:lo<=n
 ·by_cases h2:n<=hi
  ·have HB:Hid (zM n lo hi=true):=z4E h1 h2;go_enter func69,ntmps69;go_wp2;go_ret;exact ⟨zV HB.out.symm,rfl⟩
  ·have HB:Hid (zM n lo hi=false):=z33 (by omega);go_enter func69,ntmps69;go_wp2;go_ret;exact ⟨zV HB.out.symm,rfl⟩
 ·have HB:Hid (zM n lo hi=false):=z33 (by omega);go_enter func69,ntmps69;go_wp2;go_ret;exact ⟨zV HB.out.symm,rfl⟩
theorem z0t (n lo hi:Int) (w:World) :
  Calls prog 36 #[int i64 n,int i64 lo,int i64 hi] w λe w'=>e=.returned (.bool (zM n lo hi))/\w'=w:=by
 by_cases h1:lo<=n
 ·by_cases h2:n<=hi
  ·have HB:Hid (zM n lo hi=true):=z4E h1 h2;go_enter func36,ntmps36;go_wp2;go_ret;exact ⟨zV HB.out.symm,rfl⟩
  ·have HB:Hid (zM n lo hi=false):=z33 (by omega);go_enter func36,ntmps36;go_wp2;go_ret;exact ⟨zV HB.out.symm,rfl⟩
 ·have HB:Hid (zM n lo hi=false):=z33 (by omega);go_enter func36,ntmps36;go_wp2;go_ret;exact ⟨zV HB.out.symm,rfl⟩
def z1n (a b:Int):Bool:=decide ((a=0\/a=4)/\b=0\/(1<=a/\a<=3)/\1<=b/\b<=3)
theorem zcp (b:Int):z1n 0 b=(b == 0):=by rw [Bool.eq_iff_iff];simp [z1n]
theorem zcq (b:Int):z1n 4 b=(b == 0):=by rw [Bool.eq_iff_iff];simp [z1n];
theorem z7j {a:Int} (b:Int) (h1:1<=a) (h2:a<=3):z1n a b=zM b 1 3:=by rw [Bool.eq_iff_iff];simp [z1n,zM];omega
theorem zbe {a:Int} (b:Int) (h0:a ≠ 0) (h4:a ≠ 4) (h:¬ (1<=a/\a<=3)):z1n a b=false:=by simp [z1n];omega
def z0p (s:ByteArray) (c r a1 b1 a2 b2 a3 b3 a4 b4:Int):Bool:=z0u s && (zM c 1 4 && (zM r 1 4 && (z1n a1 b1 && (z1n a2 b2 && (z1n a3 b3 && z1n a4 b4)))))
theorem Hid.mk {p:Prop} (h:p):Hid p:=h
def z2w (k n:Int):Bool:=decide (k=0/\n=0\/k=1/\0<=n/\n<=60\/k=2/\1<=n/\n<=100)
theorem zk5 (n:Int):z2w 0 n=zM n 0 0:=by rw [Bool.eq_iff_iff];simp [z2w,zM];omega
theorem zje (n:Int):z2w 0 n=(n == 0):=by rw [Bool.eq_iff_iff];simp [z2w]
theorem zg4 (n:Int):z2w 1 n=zM n 0 60:=by rw [Bool.eq_iff_iff];simp [z2w,zM]
theorem zg5 (n:Int):z2w 2 n=zM n 1 100:=by rw [Bool.eq_iff_iff];simp [z2w,zM]
theorem zep {k:Int} (n:Int) (h0:k ≠ 0) (h1:k ≠ 1) (h2:k ≠ 2):z2w k n=false:=by simp [z2w];omega
def cB (x:C):Bool:=z0p x.s x.c x.r x.a1 x.b1 x.a2 x.b2 x.a3 x.b3 x.a4 x.b4
def z2g (r:R):Bool:=decide (r.cells.length<=5) && r.cells.all cB
def z2k (ps:List (Int × Int)):Bool:=decide (ps.length<=8) && ps.all (λp=>z2w p.1 p.2)
def z2e (n:Nat) (hd ft:Int):Bool:=zM hd 0 n && zM ft 0 (n - hd)
theorem z5k {α:Type} (d:α) (p:α->Bool) (l:List α) (h:∀ j,j < l.length->p (l.getD j d)=true):l.all p=true:=by
 rw [List.all_eq_true];intro x hx;obtain ⟨j,hj,rfl⟩:=List.getElem_of_mem hx;have e:l.getD j d=l[j]:=(by simp [List.getD,hj]);rw [<-e];exact h j hj
theorem z4O {α:Type} (d:α) (p:α->Bool) (l:List α) (k:Nat) (hk:k < l.length) (h:p (l.getD k d)=false):l.all p=false:=by
 have e:l.getD k d=l[k]:=(by simp [List.getD,hk]);rw [e] at h
 cases hb:l.all p with
 | false=>rfl
 | true=>rw [List.all_eq_true.1 hb _ (List.getElem_mem hk)] at h;cases h
theorem z4P {α:Type} {d:α} {p:α->Bool} {l:List α} {k:Nat} (h:∀ j,j < k->p (l.getD j d)=true) (hk:p (l.getD k d)=true):∀ j,j < k+1->p (l.getD j d)=true:=by
 intro j hj
 rcases Nat.lt_or_eq_of_le (Nat.lt_succ_iff.1 hj) with h1 | h1
 ·exact h j h1
 ·rw [h1];exact hk
def zF (t:T):Bool:=zM t.rows.length 1 8 && (z2e t.rows.length t.head t.foot && (zM t.gap 0 3 && (z2k t.cols && t.rows.all z2g)))
theorem z2M (w:World) (q:Obj):(w.alloc q).heap[w.heap.size]?=some q:=by show (w.heap.push q)[w.heap.size]?=_;simp
theorem zL {w:World} {g:Nat} {x0 x1 x2 x3 x4:Value} {t:TypeId} (h:w.heap[g]?=some (.cells #[x0,x1,x2,x3,x4] t)) :
  w.cell? ⟨g,0,none⟩=some x0/\w.cell? ⟨g,1,none⟩=some x1/\w.cell? ⟨g,2,none⟩=some x2/\w.cell? ⟨g,3,none⟩=some x3/\w.cell? ⟨g,4,none⟩=some x4 :=
 ⟨Joins.cell_of_block h 0,Joins.cell_of_block h 1,Joins.cell_of_block h 2,Joins.cell_of_block h 3,Joins.cell_of_block h 4⟩
def z0j (t:T) (q:Int):Int:=if zF t=true/\zM q 0 (t.rows.length - 1)=true then (if q < t.head then 0 else if t.rows.length - t.foot<=q then 2 else 1) else -1
theorem z6A {a b:Int} (h:a=b):Ending.returned (int i64 a)=.returned (int i64 b):=by rw [h]
theorem z0R {t:T} (h:zF t=true):(1<=t.rows.length/\t.rows.length<=8)/\(0<=t.head/\t.head<=t.rows.length)/\0<=t.foot/\t.foot<=t.rows.length:=by
 simp only [zF,z2e,Bool.and_eq_true] at h;have h1:(1:Int)<=t.rows.length/\(t.rows.length:Int)<=8:=of_decide_eq_true h.1;have h2:0<=t.head/\t.head<=t.rows.length:=of_decide_eq_true h.2.1.1;have h3:0<=t.foot/\t.foot<=t.rows.length - t.head:=of_decide_eq_true h.2.1.2;omega
structure GC where
 row:Int
 col:Int
 rows:Int
 cols:Int
 ins:Int
structure G where
 rows:Int
 cols:Int
 cells:List GC
def dG:GC:=⟨0,0,0,0,0⟩
def I64 (n:Int):Prop:=-9223372036854775808<=n/\n<=9223372036854775807
def GOk (x:GC):Prop:=I64 x.row/\I64 x.col/\I64 x.rows/\I64 x.cols/\I64 x.ins
def GIs (w:World) (b o:Nat) (x:GC):Prop :=
 w.cell? ⟨b,o,none⟩=some (int i64 x.row)/\w.cell? ⟨b,o+1,none⟩=some (int i64 x.col)/\w.cell? ⟨b,o+2,none⟩=some (int i64 x.rows) /\
 w.cell? ⟨b,o+3,none⟩=some (int i64 x.cols)/\w.cell? ⟨b,o+4,none⟩=some (int i64 x.ins)
def z1K (w:World) (z:Nat) (v:Value) (gs:List GC):Prop:=At w z v gs.length 5 (λi b o=>GIs w b o (gs.getD i dG)/\GOk (gs.getD i dG))
def zlf (w:World) (z:Nat) (v:Value) (g:G):Prop:=∃ vc,v=.agg #[int i64 g.rows,int i64 g.cols,vc]/\z1K w z vc g.cells
theorem GIs.since {w w':World} {z b o:Nat} {x:GC} (h:GIs w b o x) (hb:b < w.heap.size) (hz:z<=b) (k:z0J z w w'):GIs w' b o x:=by
 unfold GIs at h |-;simp only [k.cell hz hb];exact h
theorem z1K.since {w w':World} {z:Nat} {v:Value} {gs:List GC} (h:z1K w z v gs) (k:z0J z w w'):z1K w' z v gs :=
 At.mono h k.size lR (λ_ _ _ _ hb hz he=>⟨he.1.since hb hz k,he.2⟩)
theorem z1K.kept {w w':World} {z:Nat} {v:Value} {gs:List GC} (h:z1K w z v gs) (k:Below w.heap.size w w'):z1K w' z v gs:=h.since (.of_below k)
theorem z1K.base {w:World} {z z':Nat} {v:Value} {gs:List GC} (h:z1K w z v gs) (hz:z'<=z):z1K w z' v gs:=At.mono h lR hz (λ_ _ _ _ _ _ he=>he)
def zld (p:GC->Bool) (gs:List GC):Int:=match gs.findIdx? p with | some k=>(k:Int) | none=>-1
end
end Go.Proofs.YtggmjiddadjilahGreat
