/-
  PROVED HERE: numbers between two others, as a Bool. Also: 10 more texts of the same proof.
-/
import Derived.Test.YtggmjiddadjilamB5
import Derived.WalkLawsBesides
import Derived.WalkSpells
import Derived.Lib.SmallJoins
set_option maxRecDepth 1000000
set_option maxHeartbeats 40000000
namespace Go.Proofs.Ytggmjiddadjilam
section
open Go.RowKit
def inB (n lo hi:Int):Bool:=decide (lo≤n∧n≤hi)
theorem zr {a b:Bool} (h:a=b):Ending.returned (.bool a)=.returned (.bool b):=by rw [h]
theorem z2l {n lo hi:Int} (h1:lo≤n) (h2:n≤hi):inB n lo hi=true:=by simp [inB,h1,h2]
theorem z1P {n lo hi:Int} (h:¬ (lo≤n∧n≤hi)):inB n lo hi=false:=by simp only [inB,h,decide_false]
structure C where
 s:ByteArray
 c:Int
 r:Int
 a1:Int
 b1:Int
 a2:Int
 b2:Int
 a3:Int
 b3:Int
 a4:Int
 b4:Int
structure R where
 cells:List C
 whole:Bool
structure T where
 cols:List (Int × Int)
 head:Int
 foot:Int
 rows:List R
 gap:Int
def dC:C:=⟨ByteArray.empty,0,0,0,0,0,0,0,0,0,0⟩
def dR:R:=⟨[],false⟩
def z2y (w:World) (b o:Nat) (x:C):Prop :=
 w.cell? ⟨b,o,none⟩=some (.string x.s)∧w.cell? ⟨b,o+1,none⟩=some (.int .i64 x.c)∧w.cell? ⟨b,o+2,none⟩=some (.int .i64 x.r) ∧
 w.cell? ⟨b,o+3,none⟩=some (.int .i64 x.a1)∧w.cell? ⟨b,o+4,none⟩=some (.int .i64 x.b1)∧w.cell? ⟨b,o+5,none⟩=some (.int .i64 x.a2)∧w.cell? ⟨b,o+6,none⟩=some (.int .i64 x.b2) ∧
 w.cell? ⟨b,o+7,none⟩=some (.int .i64 x.a3)∧w.cell? ⟨b,o+8,none⟩=some (.int .i64 x.b3)∧w.cell? ⟨b,o+9,none⟩=some (.int .i64 x.a4)∧w.cell? ⟨b,o+10,none⟩=some (.int .i64 x.b4)
def At (w:World) (z:Nat) (v:Value) (n sz:Nat) (E:Nat→Nat→Nat→Prop):Prop :=
 ∃ (a:Option Addr) (cap:Nat),v=.slice a n cap∧n≤cap∧cap≤maxLen∧∀ i,i < n→∃ b off,a=some ⟨b,off,none⟩∧b < w.heap.size∧z≤b∧E i b (off+i * sz)
def z0E (w:World) (z:Nat) (v:Value) (cs:List C):Prop:=At w z v cs.length 11 (fun i b o=>z2y w b o (cs.getD i dC)∧(cs.getD i dC).s.size≤maxLen)
def zY (w:World) (z:Nat) (v:Value) (ps:List (Int × Int)):Prop:=At w z v ps.length 2 (fun i b o=>w.cell? ⟨b,o,none⟩=some (.int .i64 (ps.getD i (0,0)).1)∧w.cell? ⟨b,o+1,none⟩=some (.int .i64 (ps.getD i (0,0)).2))
def zD (w:World) (z:Nat) (v:Value) (rs:List R):Prop:=At w z v rs.length 2 (fun i b o=>∃ u,w.cell? ⟨b,o,none⟩=some u∧w.cell? ⟨b,o+1,none⟩=some (.bool (rs.getD i dR).whole)∧z0E w z u (rs.getD i dR).cells)
def z2J (w:World) (z:Nat) (v:Value) (t:T):Prop:=∃ vc vr,v=.agg #[vc,.int .i64 t.head,.int .i64 t.foot,vr,.int .i64 t.gap]∧zY w z vc t.cols∧zD w z vr t.rows
structure zX (z:Nat) (w w':World):Prop where
 size:w.heap.size≤w'.heap.size
 block:∀ k,z≤k→k < w.heap.size→w'.heap[k]?=w.heap[k]?
theorem zX.of_below {z:Nat} {w w':World} (h:Below w.heap.size w w'):zX z w w':=⟨h.size,fun k _ hk=>h.block k hk⟩
theorem zX.refl (z:Nat) (w:World):zX z w w:=⟨Nat.le_refl _,fun _ _ _=>rfl⟩
theorem zX.trans {z:Nat} {a b c:World} (h:zX z a b) (k:zX z b c):zX z a c:=⟨Nat.le_trans h.size k.size,fun i h1 h2=>(k.block i h1 (Nat.lt_of_lt_of_le h2 h.size)).trans (h.block i h1 h2)⟩
theorem zX.set {z:Nat} {a w:World} (h:zX z a w) {p:Addr} (hp:p.block < z) (v:Value):zX z a (w.setCell p v) :=
 ⟨by simpa [World.setCell] using h.size,fun k h1 h2=>(Below.heap_setCell _ _ _ _ (by omega)).trans (h.block k h1 h2)⟩
theorem zX.alloc {z:Nat} {a w:World} (h:zX z a w) (o:Obj):zX z a (w.alloc o):=h.trans (zX.of_below (zb (Below.refl _ _) _))
theorem zX.cell {z:Nat} {w w':World} (h:zX z w w') {b:Nat} (h1:z≤b) (h2:b < w.heap.size) (p:Nat):w'.cell? ⟨b,p,none⟩=w.cell? ⟨b,p,none⟩:=World.cell?_of_block (w:=w) (a:=⟨b,p,none⟩) (h.block b h1 h2)
theorem At.mono {w w':World} {z z':Nat} {v:Value} {n sz:Nat} {E E':Nat→Nat→Nat→Prop} (h:At w z v n sz E) (hz:w.heap.size≤w'.heap.size) (hzz:z'≤z) (hE:∀ i b o,i < n→b < w.heap.size→z≤b→E i b o→E' i b o):At w' z' v n sz E':=by
 obtain ⟨a,cap,e,h1,h2,hx⟩:=h;refine ⟨a,cap,e,h1,h2,fun i hi=>?_⟩;obtain ⟨b,off,ea,hb,hzb,he⟩:=hx i hi;exact ⟨b,off,ea,Nat.lt_of_lt_of_le hb hz,Nat.le_trans hzz hzb,hE i b _ hi hb hzb he⟩
theorem z2y.since {w w':World} {z b o:Nat} {x:C} (h:z2y w b o x) (hb:b < w.heap.size) (hz:z≤b) (k:zX z w w'):z2y w' b o x:=by
 unfold z2y at h ⊢;simp only [k.cell hz hb];exact h
theorem z0E.since {w w':World} {z:Nat} {v:Value} {cs:List C} (h:z0E w z v cs) (k:zX z w w'):z0E w' z v cs :=
 At.mono h k.size (Nat.le_refl _) (fun _ _ _ _ hb hz he=>⟨he.1.since hb hz k,he.2⟩)
theorem zY.since {w w':World} {z:Nat} {v:Value} {cs:List (Int × Int)} (h:zY w z v cs) (k:zX z w w'):zY w' z v cs :=
 At.mono h k.size (Nat.le_refl _) (fun _ _ _ _ hb hz he=>⟨(k.cell hz hb _).trans he.1,(k.cell hz hb _).trans he.2⟩)
theorem zD.since {w w':World} {z:Nat} {v:Value} {rs:List R} (h:zD w z v rs) (k:zX z w w'):zD w' z v rs :=
 At.mono h k.size (Nat.le_refl _) (fun _ _ _ _ hb hz ⟨u,h1,h2,h3⟩=>⟨u,(k.cell hz hb _).trans h1,(k.cell hz hb _).trans h2,h3.since k⟩)
theorem z2J.since {w w':World} {z:Nat} {v:Value} {t:T} (h:z2J w z v t) (k:zX z w w'):z2J w' z v t:=by
 obtain ⟨vc,vr,e,h1,h2⟩:=h;exact ⟨vc,vr,e,h1.since k,h2.since k⟩
theorem z0E.kept {w w':World} {z:Nat} {v:Value} {cs:List C} (h:z0E w z v cs) (k:Below w.heap.size w w'):z0E w' z v cs:=h.since (.of_below k)
theorem zY.kept {w w':World} {z:Nat} {v:Value} {cs:List (Int × Int)} (h:zY w z v cs) (k:Below w.heap.size w w'):zY w' z v cs:=h.since (.of_below k)
theorem zD.kept {w w':World} {z:Nat} {v:Value} {rs:List R} (h:zD w z v rs) (k:Below w.heap.size w w'):zD w' z v rs:=h.since (.of_below k)
theorem z2J.kept {w w':World} {z:Nat} {v:Value} {t:T} (h:z2J w z v t) (k:Below w.heap.size w w'):z2J w' z v t:=h.since (.of_below k)
theorem z0E.base {w:World} {z z':Nat} {v:Value} {cs:List C} (h:z0E w z v cs) (hz:z'≤z):z0E w z' v cs:=At.mono h (Nat.le_refl _) hz (fun _ _ _ _ _ _ he=>he)
theorem zY.base {w:World} {z z':Nat} {v:Value} {cs:List (Int × Int)} (h:zY w z v cs) (hz:z'≤z):zY w z' v cs:=At.mono h (Nat.le_refl _) hz (fun _ _ _ _ _ _ he=>he)
theorem zD.base {w:World} {z z':Nat} {v:Value} {rs:List R} (h:zD w z v rs) (hz:z'≤z):zD w z' v rs:=At.mono h (Nat.le_refl _) hz (fun _ _ _ _ _ _ ⟨u,h1,h2,h3⟩=>⟨u,h1,h2,h3.base hz⟩)
theorem At.get {w:World} {z:Nat} {v:Value} {n sz:Nat} {E:Nat→Nat→Nat→Prop} (h:At w z v n sz E) {i:Nat} (hi:i < n):∃ b off cap,v=.slice (some ⟨b,off,none⟩) n cap∧n≤cap∧cap≤maxLen∧b < w.heap.size∧E i b (off+i * sz):=by
 obtain ⟨a,cap,e,h1,h2,hx⟩:=h;obtain ⟨b,off,rfl,hb,_,he⟩:=hx i hi;exact ⟨b,off,cap,e,h1,h2,hb,he⟩
theorem At.form {w:World} {z:Nat} {v:Value} {n sz:Nat} {E:Nat→Nat→Nat→Prop} (h:At w z v n sz E):∃ a cap,v=.slice a n cap∧n≤maxLen:=by
 obtain ⟨a,cap,e,h1,h2,_⟩:=h;exact ⟨a,cap,e,Nat.le_trans h1 h2⟩
def z66:List C→Nat
 | []=>0
 | x :: r=>1+x.s.size+z66 r
def z6S:List R→Nat
 | []=>0
 | x :: r=>1+z66 x.cells+z6S r
def z7B (t:T):Nat:=t.cols.length+z6S t.rows
def z7C (cs:List C) (k:Nat):Nat:=((cs.take k).map (fun x=>x.s.size)).sum
def z7D (rs:List R) (k:Nat):Nat:=((rs.take k).map (fun x=>z66 x.cells)).sum
structure Bk (r:Nat) (w w':World):Prop where
 os:w'.os=w.os
 tape:w'.tape=w.tape
 output:w'.output=w.output
 size:w.heap.size≤w'.heap.size
 block:∀ k,k < w.heap.size→k ≠ r→w'.heap[k]?=w.heap[k]?
theorem Bk.refl (r:Nat) (w:World):Bk r w w:=⟨rfl,rfl,rfl,Nat.le_refl _,fun _ _ _=>rfl⟩
theorem Bk.trans {r:Nat} {a b c:World} (h:Bk r a b) (k:Bk r b c):Bk r a c :=
 ⟨k.os.trans h.os,k.tape.trans h.tape,k.output.trans h.output,Nat.le_trans h.size k.size,fun i hi hr=>(k.block i (Nat.lt_of_lt_of_le hi h.size) hr).trans (h.block i hi hr)⟩
theorem Bk.alloc {r:Nat} {a w:World} (h:Bk r a w) (o:Obj):Bk r a (w.alloc o) :=
 h.trans ⟨rfl,rfl,rfl,by simp,fun k hk _=>Below.heap_alloc _ _ _ hk⟩
theorem Bk.drewN {r:Nat} {a w:World} (h:Bk r a w) (n:Nat):Bk r a (w.drewN n):=⟨h.os,h.tape,h.output,h.size,h.block⟩
theorem Bk.drew {r:Nat} {a w:World} (h:Bk r a w):Bk r a w.drew:=⟨h.os,h.tape,h.output,h.size,h.block⟩
theorem Bk.set {r:Nat} {a w:World} (h:Bk r a w) {p:Addr} (hp:p.block=r∨a.heap.size≤p.block) (u:Value):Bk r a (w.setCell p u) :=
 ⟨h.os,h.tape,h.output,by simpa [World.setCell] using h.size,fun k hk hr=>(Below.heap_setCell _ _ _ _ (by omega)).trans (h.block k hk hr)⟩
theorem Bk.below {r:Nat} {w w':World} (h:Bk r w w') {n:Nat} (hn:n≤w.heap.size) (hr:n≤r):Below n w w':=⟨h.os,h.tape,h.output,h.size,fun k hk=>h.block k (by omega) (by omega)⟩
theorem Bk.of_below {r:Nat} {w w':World} (h:Below w.heap.size w w'):Bk r w w':=⟨h.os,h.tape,h.output,h.size,fun k hk _=>h.block k hk⟩
theorem Bk.cell {r:Nat} {w w':World} (h:Bk r w w') {p:Addr} (hp:p.block < w.heap.size) (hr:p.block ≠ r):w'.cell? p=w.cell? p:=World.cell?_of_block (w:=w) (h.block p.block hp hr)
theorem Bk.frozen {r:Nat} {w w':World} (h:Bk r w w') {p:Addr} (hp:p.block < w.heap.size) (hr:p.block ≠ r):w'.frozen? p=w.frozen? p:=World.frozen?_of_block (w:=w) (h.block p.block hp hr)
theorem Bk.cells {r:Nat} {w w':World} (h:Bk r w w'):(∀ b o,b < w.heap.size→b ≠ r→w'.cell? ⟨b,o,none⟩=w.cell? ⟨b,o,none⟩)∧(∀ b o,b < w.heap.size→b ≠ r→w'.frozen? ⟨b,o,none⟩=w.frozen? ⟨b,o,none⟩) :=
 ⟨fun b o h1 h2=>h.cell (p:=⟨b,o,none⟩) h1 h2,fun b o h1 h2=>h.frozen (p:=⟨b,o,none⟩) h1 h2⟩
theorem zf (w:World) (q:Obj):(w.alloc q).heap[w.heap.size]?=some q:=by show (w.heap.push q)[w.heap.size]?=_;simp
theorem zc {w:World} {g p:Nat} {arr:Array Value} {t:TypeId} (h:w.heap[g]?=some (.cells arr t)):w.cell? ⟨g,p,none⟩=arr[p]?:=Joins.cell_of_block h p
theorem zn {w:World} {g p:Nat} {arr:Array Value} {t:TypeId} (h:w.heap[g]?=some (.cells arr t)):w.frozen? ⟨g,p,none⟩=false:=Joins.unfrozen_of_block h p
theorem zL {w:World} {g p:Nat} {arr:Array Value} {t:TypeId} (h:w.heap[g]?=some (.cells arr t)) (v:Value):(w.setCell ⟨g,p,none⟩ v).heap[g]?=some (.cells (arr.setIfInBounds p v) t):=Joins.block_setCell h v
theorem z2m {arr:Array Value} {n k:Nat} (hs:arr.size=n * 2) (hk:k < n) (x y:Value) :
  (∀ p,p < k * 2→((arr.setIfInBounds (k * 2) x).setIfInBounds (k * 2+1) y)[p]?=arr[p]?)∧((arr.setIfInBounds (k * 2) x).setIfInBounds (k * 2+1) y)[k * 2]?=some x∧((arr.setIfInBounds (k * 2) x).setIfInBounds (k * 2+1) y)[k * 2+1]?=some y:=by
 have eq:∀ (A:Array Value) (i:Nat) (v:Value),i < A.size→(A.setIfInBounds i v)[i]?=some v:=fun A i v hi=>by simp [hi]
 refine ⟨fun p hp=>?_,?_,?_⟩
 ·rw [Array.getElem?_setIfInBounds_ne (by omega),Array.getElem?_setIfInBounds_ne (by omega)]
 ·rw [Array.getElem?_setIfInBounds_ne (by omega)];exact eq _ _ _ (by omega)
 ·exact eq _ _ _ (by rw [Array.size_setIfInBounds];omega)
def z7v (n:Int) (m:Nat):Int:=if (m:Int)≤n then n - m else -1
theorem z2g {a b:Int} (h:a=b):Ending.returned (.int .i64 a)=.returned (.int .i64 b):=by rw [h]
structure GC where
 row:Int
 col:Int
 rows:Int
 cols:Int
 ins:Int
structure G where
 rows:Int
 cols:Int
 cells:List GC
def dG:GC:=⟨0,0,0,0,0⟩
def I64 (n:Int):Prop:=-9223372036854775808≤n∧n≤9223372036854775807
def GOk (x:GC):Prop:=I64 x.row∧I64 x.col∧I64 x.rows∧I64 x.cols∧I64 x.ins
def GIs (w:World) (b o:Nat) (x:GC):Prop :=
 w.cell? ⟨b,o,none⟩=some (.int .i64 x.row)∧w.cell? ⟨b,o+1,none⟩=some (.int .i64 x.col)∧w.cell? ⟨b,o+2,none⟩=some (.int .i64 x.rows) ∧
 w.cell? ⟨b,o+3,none⟩=some (.int .i64 x.cols)∧w.cell? ⟨b,o+4,none⟩=some (.int .i64 x.ins)
def z03 (w:World) (z:Nat) (v:Value) (gs:List GC):Prop:=At w z v gs.length 5 (fun i b o=>GIs w b o (gs.getD i dG)∧GOk (gs.getD i dG))
def z6x (w:World) (z:Nat) (v:Value) (g:G):Prop:=∃ vc,v=.agg #[.int .i64 g.rows,.int .i64 g.cols,vc]∧z03 w z vc g.cells
theorem GIs.since {w w':World} {z b o:Nat} {x:GC} (h:GIs w b o x) (hb:b < w.heap.size) (hz:z≤b) (k:zX z w w'):GIs w' b o x:=by
 unfold GIs at h ⊢;simp only [k.cell hz hb];exact h
theorem z03.since {w w':World} {z:Nat} {v:Value} {gs:List GC} (h:z03 w z v gs) (k:zX z w w'):z03 w' z v gs :=
 At.mono h k.size (Nat.le_refl _) (fun _ _ _ _ hb hz he=>⟨he.1.since hb hz k,he.2⟩)
theorem z03.kept {w w':World} {z:Nat} {v:Value} {gs:List GC} (h:z03 w z v gs) (k:Below w.heap.size w w'):z03 w' z v gs:=h.since (.of_below k)
theorem z03.base {w:World} {z z':Nat} {v:Value} {gs:List GC} (h:z03 w z v gs) (hz:z'≤z):z03 w z' v gs:=At.mono h (Nat.le_refl _) hz (fun _ _ _ _ _ _ he=>he)
def z0O (p:GC→Bool) (gs:List GC):Int:=match gs.findIdx? p with | some k=>(k:Int) | none=>-1
theorem z36 {p:GC→Bool} {gs:List GC} {k:Nat} (hk:k < gs.length) (h:∀ i,i < k→p (gs.getD i dG)=false) (hp:p (gs.getD k dG)=true):z0O p gs=(k:Int):=by
 have e:gs.findIdx? p=some k:=by
  rw [List.findIdx?_eq_some_iff_getElem];refine ⟨hk,by simpa [List.getD,hk] using hp,fun j hj=>?_⟩;have:=h j hj
  simpa [List.getD,Nat.lt_trans hj hk] using this
 rw [z0O,e]
theorem z2O {p:GC→Bool} {gs:List GC} (h:∀ i,i < gs.length→p (gs.getD i dG)=false):z0O p gs=-1:=by
 have e:gs.findIdx? p=none:=by
  rw [List.findIdx?_eq_none_iff];intro x hx;obtain ⟨i,hi,rfl⟩:=List.mem_iff_getElem.1 hx;have:=h i hi
  simpa [List.getD,hi] using this
 rw [z0O,e]
theorem zx (n lo hi:Int) (w:World) :
  Calls Try.prog 41 #[.int .i64 n,.int .i64 lo,.int .i64 hi] w fun e w'=>e=.returned (.bool (inB n lo hi))∧w'=w:=by
 by_cases h1:lo≤n
 ·by_cases h2:n≤hi
  ·have HB:Hid (inB n lo hi=true):=z2l h1 h2;go_enter Try.func41,Try.ntmps41;go_wp2;go_ret;exact ⟨zr HB.out.symm,rfl⟩
  ·have HB:Hid (inB n lo hi=false):=z1P (by omega);go_enter Try.func41,Try.ntmps41;go_wp2;go_ret;exact ⟨zr HB.out.symm,rfl⟩
 ·have HB:Hid (inB n lo hi=false):=z1P (by omega);go_enter Try.func41,Try.ntmps41;go_wp2;go_ret;exact ⟨zr HB.out.symm,rfl⟩
theorem z06 (n lo hi:Int) (w:World) :
  Calls Try.prog 30 #[.int .i64 n,.int .i64 lo,.int .i64 hi] w fun e w'=>e=.returned (.bool (inB n lo hi))∧w'=w:=by
 by_cases h1:lo≤n
 ·by_cases h2:n≤hi
  ·have HB:Hid (inB n lo hi=true):=z2l h1 h2;go_enter Try.func30,Try.ntmps30;go_wp2;go_ret;exact ⟨zr HB.out.symm,rfl⟩
  ·have HB:Hid (inB n lo hi=false):=z1P (by omega);go_enter Try.func30,Try.ntmps30;go_wp2;go_ret;exact ⟨zr HB.out.symm,rfl⟩
 ·have HB:Hid (inB n lo hi=false):=z1P (by omega);go_enter Try.func30,Try.ntmps30;go_wp2;go_ret;exact ⟨zr HB.out.symm,rfl⟩
def z6G (R C:Int) (n:Nat):Bool:=inB R 1 8 && (inB C 1 94 && decide (n≤40))
def z11 (R C:Int) (x:GC):Bool:=inB x.row 0 (R - 1) && (inB x.rows 1 (R - x.row) && (inB x.col 0 (C - 1) && (inB x.cols 1 (C - x.col) && inB x.ins 0 4)))
def zZ (a b:GC):Bool:=decide (a.row < b.row+b.rows) && (decide (b.row < a.row+a.rows) && (decide (a.col < b.col+b.cols) && decide (b.col < a.col+a.cols)))
def z0k (xs:List GC) (x:GC):Bool:=xs.all fun a=>!zZ a x
def z7e (R C:Int) (gs:List GC) (k:Nat):Bool:=(List.range k).all fun i=>z11 R C (gs.getD i dG) && z0k (gs.take i) (gs.getD i dG)
def okB (g:G):Bool:=z6G g.rows g.cols g.cells.length && z7e g.rows g.cols g.cells g.cells.length
def z6T (R C:Int) (x:GC) (r c rs cs:Nat):Prop:=x.row=r∧x.col=c∧x.rows=rs∧x.cols=cs∧1≤rs∧1≤cs∧((r+rs:Nat):Int)≤R∧((c+cs:Nat):Int)≤C
theorem z1W {R C:Int} {x:GC} (h:z11 R C x=true):z6T R C x x.row.toNat x.col.toNat x.rows.toNat x.cols.toNat:=by
 simp [z11,inB] at h;unfold z6T;omega
def z1p (x:GC):List Sl:=z01 x.row.toNat x.col.toNat x.cols.toNat x.rows.toNat
def zM (gs:List GC):List (Nat × Nat):=(gs.flatMap z1p).map (·.1)
theorem z46 (gs:List GC) (x:GC):zM (gs ++ [x])=zM gs ++ (z1p x).map (·.1):=by simp [zM]
theorem z52 {r c rs cs:Nat} (hr:r+rs≤1000) (hc:c+cs≤1000) (y:Nat × Nat):y ∈ (z01 r c cs rs).map (·.1) ↔ (r≤y.1∧y.1 < r+rs)∧c≤y.2∧y.2 < c+cs:=by
 simp only [z01,z15,List.mem_map,List.mem_flatMap,List.mem_range];constructor
 ·rintro ⟨z,⟨i,hi,j,hj,rfl⟩,rfl⟩;rw [z2Z (by omega)];dsimp only;omega
 ·rintro ⟨⟨h1,h2⟩,h3,h4⟩;refine ⟨z2z (r+(y.1 - r)) (c+(y.2 - c)),⟨y.1 - r,by omega,y.2 - c,by omega,rfl⟩,?_⟩;rw [z2Z (by omega)];exact Prod.ext (by dsimp only;omega) (by dsimp only;omega)
theorem z1S {R C:Int} {x:GC} (h:z11 R C x=true) (hR:R≤8) (hC:C≤94) (y:Nat × Nat):y ∈ (z1p x).map (·.1) ↔ (x.row≤y.1∧(y.1:Int) < x.row+x.rows)∧x.col≤y.2∧(y.2:Int) < x.col+x.cols:=by
 obtain ⟨e1,e2,e3,e4,h1,h2,h3,h4⟩:=z1W h;unfold z1p;rw [z52 (by omega) (by omega)];omega
theorem z3G {R C:Int} {a x:GC} (ha:z11 R C a=true) (hx:z11 R C x=true) (hR:R≤8) (hC:C≤94):zZ a x=true ↔ ∃ y,y ∈ (z1p a).map (·.1)∧y ∈ (z1p x).map (·.1):=by
 obtain ⟨a1,a2,a3,a4,a5,a6,a7,a8⟩:=z1W ha;obtain ⟨x1,x2,x3,x4,x5,x6,x7,x8⟩:=z1W hx;have e:zZ a x=true ↔ a.row < x.row+x.rows∧x.row < a.row+a.rows∧a.col < x.col+x.cols∧x.col < a.col+a.cols:=(by simp [zZ]);rw [e];constructor
 ·rintro ⟨h1,h2,h3,h4⟩;refine ⟨(max a.row.toNat x.row.toNat,max a.col.toNat x.col.toNat),(z1S ha hR hC _).2 ?_,(z1S hx hR hC _).2 ?_⟩
  ·dsimp only;omega
  ·dsimp only;omega
 ·rintro ⟨y,h1,h2⟩;have k1:=(z1S ha hR hC _).1 h1;have k2:=(z1S hx hR hC _).1 h2;omega
theorem z6H {R C:Int} {gs:List GC} {x:GC} (hg:∀ a ∈ gs,z11 R C a=true) (hx:z11 R C x=true) (hR:R≤8) (hC:C≤94):z1Y (zM gs) x.row.toNat x.col.toNat x.rows.toNat x.cols.toNat=z0k gs x:=by
 rw [Bool.eq_iff_iff];unfold z1Y z0k;rw [List.all_eq_true,List.all_eq_true];constructor
 ·intro h a ha
  cases hm:zZ a x with
  | false=>rfl
  | true =>
   obtain ⟨y,h1,h2⟩:=(z3G (hg a ha) hx hR hC).1 hm;obtain ⟨z,hz,rfl⟩:=List.mem_map.1 h2;have:=of_decide_eq_true (h z hz);refine absurd ?_ this;obtain ⟨u,hu,e⟩:=List.mem_map.1 h1;exact List.mem_map.2 ⟨u,List.mem_flatMap.2 ⟨a,ha,hu⟩,e⟩
 ·intro h z hz;refine decide_eq_true (fun hm=>?_);obtain ⟨u,hu,e⟩:=List.mem_map.1 hm;obtain ⟨a,ha,hua⟩:=List.mem_flatMap.1 hu;have:=h a ha;rw [(z3G (hg a ha) hx hR hC).2 ⟨z.1,List.mem_map.2 ⟨u,hua,e⟩,List.mem_map.2 ⟨z,hz,rfl⟩⟩] at this
  cases this
theorem z5x (r c a:Nat):(z15 r c a).length=a:=by simp [z15]
theorem z53 (r c cs d:Nat):(z01 r c cs d).length=d * cs:=by
 induction d with
 | zero=>simp [z01]
 | succ d ih=>rw [z2b,List.length_append,ih,z5x,Nat.succ_mul]
theorem z39 {R C:Int} {x:GC} (h:z11 R C x=true) (hR:R≤8) (hC:C≤94):(z1p x).length≤752:=by
 obtain ⟨e1,e2,e3,e4,h1,h2,h3,h4⟩:=z1W h;unfold z1p;rw [z53];have a1:x.rows.toNat≤8:=(by omega);have a2:x.cols.toNat≤94:=(by omega);exact Nat.mul_le_mul a1 a2
theorem z2R {R C:Int} (hR:R≤8) (hC:C≤94):∀ (gs:List GC),(∀ a ∈ gs,z11 R C a=true)→(zM gs).length≤gs.length * 752
 | [],_=>by simp [zM]
 | a :: t,h=>by
  have h1:=z39 (h a (by simp)) hR hC;have h2:=z2R hR hC t (fun b hb=>h b (by simp [hb]));simp only [zM,List.length_map,List.flatMap_cons,List.length_append,List.length_cons] at h2 ⊢;omega
end
section
theorem z7f (l:Int) (N:Nat):(((List.range N).countP (fun c:Nat=>decide (l≤(c:Int)∧(c:Int) < l+7)):Nat):Int)≤max 0 (min 7 (N - l)):=by
 induction N with
 | zero=>simp;omega
 | succ N ih =>
  rw [List.range_succ,List.countP_append,List.countP_cons,List.countP_nil];by_cases h:l≤(N:Int)∧(N:Int) < l+7
  ·rw [if_pos (decide_eq_true h)];omega
  ·rw [if_neg (by simpa using h)];omega
theorem z5y {α:Type} (p q:α→Bool) (l:List α):l.countP (fun x=>p x || q x)≤l.countP p+l.countP q:=by
 induction l with
 | nil=>simp
 | cons a t ih =>
  rw [List.countP_cons,List.countP_cons,List.countP_cons]
  cases p a <;> cases q a <;> simp <;> omega
theorem z47 (N:Nat):∀ ls:List Int,(List.range N).countP (fun c:Nat=>ls.any fun l=>decide (l≤(c:Int)∧(c:Int) < l+7))≤7 * ls.length
 | []=>by simp
 | l :: t=>by
  have h1:=z47 N t;have h2:=z7f l N;have h3:=z5y (fun c:Nat=>decide (l≤(c:Int)∧(c:Int) < l+7)) (fun c:Nat=>t.any fun l=>decide (l≤(c:Int)∧(c:Int) < l+7)) (List.range N);simp only [List.any_cons,List.length_cons];omega
theorem z5z (ls:List Int):∃ c:Nat,c≤7 * ls.length∧∀ l ∈ ls,¬ (l≤(c:Int)∧(c:Int) < l+7):=by
 apply Classical.byContradiction;intro hn
 have hall:∀ c ∈ List.range (7 * ls.length+1),(ls.any fun l=>decide (l≤(c:Int)∧(c:Int) < l+7))=true:=by
  intro c hc;rw [List.mem_range] at hc;apply Classical.byContradiction;intro h;refine hn ⟨c,by omega,fun l hl h2=>h ?_⟩;exact List.any_eq_true.2 ⟨l,hl,decide_eq_true h2⟩
 have h1:=List.countP_eq_length.2 hall;have h2:=z47 (7 * ls.length+1) ls;rw [List.length_range] at h1;omega
def z07 (x:GC) (c:Int):GC:=⟨x.row,c,x.rows,x.cols,x.ins⟩
def z1D (a x:GC):Bool:=decide (a.row < x.row+x.rows) && decide (x.row < a.row+a.rows)
theorem z4B (gs:List GC) (x:GC) (hx:1≤x.cols∧x.cols≤4) (hg:∀ a ∈ gs,1≤a.cols∧a.cols≤4):∃ c:Nat,c≤7 * (gs.filter fun a=>z1D a x).length∧z0k gs (z07 x c)=true:=by
 obtain ⟨c,h1,h2⟩:=z5z ((gs.filter fun a=>z1D a x).map fun a=>a.col - x.cols+1);rw [List.length_map] at h1;refine ⟨c,h1,List.all_eq_true.2 fun a ha=>?_⟩
 cases hm:zZ a (z07 x c) with
 | false=>rfl
 | true =>
  exfalso
  unfold zZ z07 at hm;simp only [Bool.and_eq_true,decide_eq_true_eq] at hm;have hc:=hg a ha;refine h2 (a.col - x.cols+1) (List.mem_map.2 ⟨a,List.mem_filter.2 ⟨ha,?_⟩,rfl⟩) (by omega);simp only [z1D,Bool.and_eq_true,decide_eq_true_eq];omega
def z1y (N:Nat) (gs:List GC) (x:GC):Nat:=(List.range N).findIdx (fun c:Nat=>z0k gs (z07 x c))
theorem z5A {N:Nat} {gs:List GC} {x:GC} {c:Nat} (hc:c < N) (h:z0k gs (z07 x c)=true):z1y N gs x≤c∧z0k gs (z07 x (z1y N gs x))=true∧∀ k,k < z1y N gs x→z0k gs (z07 x (k:Nat))=false:=by
 have hl:z1y N gs x < (List.range N).length:=List.findIdx_lt_length_of_exists ⟨c,List.mem_range.2 hc,h⟩
 have hno:∀ k,k < z1y N gs x→z0k gs (z07 x (k:Nat))=false:=by
  intro k hk;have:=List.not_of_lt_findIdx (p:=fun c:Nat=>z0k gs (z07 x c)) (xs:=List.range N) hk
  simpa using this
 refine ⟨?_,?_,hno⟩
 ·apply Classical.byContradiction;intro hn;have:=hno c (by omega);rw [h] at this
  cases this
 ·have e:(List.range N)[z1y N gs x]'hl=z1y N gs x:=List.getElem_range hl;have h1:z0k gs (z07 x (((List.range N)[z1y N gs x]'hl:Nat):Int))=true:=List.findIdx_getElem (p:=fun c:Nat=>z0k gs (z07 x c)) (xs:=List.range N) (w:=hl);rw [e] at h1;exact h1
def z1J (gs:List GC) (x:GC):Nat:=z1y 1000 gs x
theorem z68 {gs:List GC} {x:GC} {c:Nat} (hc:c < 1000) (h:z0k gs (z07 x c)=true):z1J gs x≤c∧z0k gs (z07 x (z1J gs x))=true∧∀ k,k < z1J gs x→z0k gs (z07 x (k:Nat))=false:=z5A hc h
def zt (t:T) (r:Nat):Int:=if (r:Int) < t.head then t.head else if (t.rows.length:Int) - t.foot≤r then t.rows.length else t.rows.length - t.foot
def z1q (r i:Nat) (e:Int) (x:C):GC:=⟨r,0,min x.r (e - r),x.c,i⟩
def z0F (gs:List GC) (r i:Nat) (e:Int) (x:C):GC:=z07 (z1q r i e x) (z1J gs (z1q r i e x))
def z0n (e:Int) (r:Nat) (cs:List C) (gs:List GC):Nat→List GC
 | 0=>gs
 | i+1=>z0n e r cs gs i ++ [z0F (z0n e r cs gs i) r i e (cs.getD i dC)]
def zv (t:T):Nat→List GC
 | 0=>[]
 | r+1=>z0n (zt t r) r (t.rows.getD r dR).cells (zv t r) (t.rows.getD r dR).cells.length
def zQ (m:Int) (gs:List GC):Int:=gs.foldl (fun m a=>max m (a.col+a.cols)) m
theorem z1K (m:Int) (gs:List GC) (x:GC):zQ m (gs ++ [x])=max (zQ m gs) (x.col+x.cols):=by simp [zQ]
structure Low (t:T):Prop where
 rows:t.rows.length≤8
 span:∀ r ∈ t.rows,∀ x ∈ r.cells,(1≤x.c∧x.c≤4)∧1≤x.r∧x.r≤3
 few:∃ k,∀ i,(t.rows.getD i dR).cells.length≤if i=k then 5 else 4
 head:0≤t.head∧t.head≤t.rows.length
 foot:0≤t.foot∧t.head+t.foot≤t.rows.length
def z0h (n:Nat) (a:GC):Prop:=(0≤a.row∧1≤a.rows∧a.rows≤3∧a.row+a.rows≤n)∧(0≤a.col∧a.col≤84)∧(1≤a.cols∧a.cols≤4)∧0≤a.ins∧a.ins≤4
theorem z1Z {t:T} (h:Low t) {r:Nat} (hr:r < t.rows.length):(r:Int) < zt t r∧zt t r≤t.rows.length:=by
 have h1:=h.head;have h2:=h.foot;unfold zt
 split
 ·omega
 ·split <;> omega
def z12 (gs:List GC) (q:Int):Nat:=gs.countP fun a=>decide (a.row=q)
theorem z2S (gs:List GC) (x:GC) (q:Int):z12 (gs ++ [x]) q=z12 gs q+if x.row=q then 1 else 0:=by
 simp [z12,List.countP_append,List.countP_cons]
theorem z48 (r:Nat) (x:GC) (hx:x.row=r):∀ gs:List GC,(∀ a ∈ gs,a.row≤r∧a.rows≤3)→(gs.filter fun a=>z1D a x).length≤z12 gs r+(z12 gs ((r:Int) - 1)+z12 gs ((r:Int) - 2))
 | [],_=>by simp
 | a :: t,h=>by
  have ih:=z48 r x hx t (fun b hb=>h b (by simp [hb]));have ha:=h a (by simp);unfold z12 at ih ⊢;rw [List.countP_cons,List.countP_cons,List.countP_cons,List.filter_cons]
  split
  ·rename_i hm
   simp only [z1D,Bool.and_eq_true,decide_eq_true_eq] at hm;rw [List.length_cons]
   rcases (by omega:a.row=r∨a.row=(r:Int) - 1∨a.row=(r:Int) - 2) with e | e | e
   ·simp [e];omega
   ·simp [e];omega
   ·simp [e];omega
  ·omega
structure z1b (t:T) (gs:List GC) (r i:Nat):Prop where
 stands:∀ a ∈ gs,z0h t.rows.length a∧a.row≤r
 cnt:∀ q:Nat,z12 gs q=if q < r then (t.rows.getD q dR).cells.length else if q=r then i else 0
 neg:∀ q:Int,q < 0→z12 gs q=0
theorem z1b.few {t:T} {gs:List GC} {r i:Nat} (h:z1b t gs r i) (hl:Low t) (hi:i < (t.rows.getD r dR).cells.length) (x:GC) (hx:x.row=r):(gs.filter fun a=>z1D a x).length≤12:=by
 have h1:=z48 r x hx gs (fun a ha=>⟨(h.stands a ha).2,(h.stands a ha).1.1.2.2.1⟩);obtain ⟨k,hk⟩:=hl.few;have k0:=hk r;have c0:=h.cnt r;rw [if_neg (by omega),if_pos rfl] at c0
 have c1:z12 gs ((r:Int) - 1)≤if r - 1=k∧1≤r then 5 else 4:=by
  by_cases hr:1≤r
  ·have e:=h.cnt (r - 1);rw [if_pos (by omega),show ((r - 1:Nat):Int)=(r:Int) - 1 by omega] at e;have:=hk (r - 1)
   split at this <;> split <;> omega
  ·rw [h.neg _ (by omega)];omega
 have c2:z12 gs ((r:Int) - 2)≤if r - 2=k∧2≤r then 5 else 4:=by
  by_cases hr:2≤r
  ·have e:=h.cnt (r - 2);rw [if_pos (by omega),show ((r - 2:Nat):Int)=(r:Int) - 2 by omega] at e;have:=hk (r - 2)
   split at this <;> split <;> omega
  ·rw [h.neg _ (by omega)];omega
 split at k0 <;> split at c1 <;> split at c2 <;> omega
theorem z0Y {α:Type} {l:List α} {i:Nat} {d:α} (h:i < l.length):l.getD i d ∈ l:=by
 have e:l.getD i d=l[i]:=(by simp [List.getD,h]);rw [e];exact List.getElem_mem _
theorem z1b.next {t:T} {gs:List GC} {r i:Nat} (h:z1b t gs r i) (hl:Low t) (hr:r < t.rows.length) (hi:i < (t.rows.getD r dR).cells.length) :
  (let x:=z1q r i (zt t r) ((t.rows.getD r dR).cells.getD i dC)
   z1J gs x≤84∧z0k gs (z07 x (z1J gs x))=true∧(∀ k,k < z1J gs x→z0k gs (z07 x (k:Nat))=false)∧∀ k:Nat,k≤84→z0h t.rows.length (z07 x k)) ∧
  z1b t (gs ++ [z0F gs r i (zt t r) ((t.rows.getD r dR).cells.getD i dC)]) r (i+1):=by
 have hm:=z0Y (d:=dR) hr;have hx:=hl.span _ hm _ (z0Y (d:=dC) hi);have he:=z1Z hl hr
 have hi5:i≤4:=by
  obtain ⟨k,hk⟩:=hl.few;have:=hk r
  split at this <;> omega
 dsimp only;generalize hX:(t.rows.getD r dR).cells.getD i dC=x at hx;have hf:=h.few hl hi (z1q r i (zt t r) x) rfl;obtain ⟨c,hc,hfree⟩:=z4B gs (z1q r i (zt t r) x) hx.1 (fun a ha=>(h.stands a ha).1.2.2.1);obtain ⟨f1,f2,f3⟩:=z68 (by omega) hfree
 have hst:∀ k:Nat,k≤84→z0h t.rows.length (z07 (z1q r i (zt t r) x) k):=by
  intro k hk;simp only [z0h,z07,z1q];omega
 refine ⟨⟨by omega,f2,f3,hst⟩,?_,?_,?_⟩
 ·intro a ha
  rcases List.mem_append.1 ha with ha | ha
  ·exact h.stands a ha
  ·simp at ha;subst ha;exact ⟨hst _ (by omega),Int.le_refl _⟩
 ·intro q;have hrow:(z0F gs r i (zt t r) x).row=(r:Int):=rfl;rw [z2S,h.cnt q,hrow];by_cases h1:q < r
  ·rw [if_pos h1,if_pos h1,if_neg (by omega:¬ (r:Int)=q),Nat.add_zero]
  ·rw [if_neg h1,if_neg h1];by_cases h2:q=r
   ·subst h2;simp
   ·rw [if_neg h2,if_neg h2,if_neg (by omega)]
 ·intro q hq;have hrow:(z0F gs r i (zt t r) x).row=(r:Int):=rfl;rw [z2S,h.neg q hq,hrow,if_neg (by omega)]
theorem z1b.zero (t:T):z1b t [] 0 0:=⟨fun a ha=>(by cases ha),fun q=>(by simp [z12]),fun q _=>(by simp [z12])⟩
theorem z1b.rowEnd {t:T} {gs:List GC} {r:Nat} (h:z1b t gs r (t.rows.getD r dR).cells.length):z1b t gs (r+1) 0:=by
 refine ⟨fun a ha=>⟨(h.stands a ha).1,by have:=(h.stands a ha).2;omega⟩,fun q=>?_,h.neg⟩;rw [h.cnt q];by_cases h1:q < r
 ·rw [if_pos h1,if_pos (by omega)]
 ·rw [if_neg h1];by_cases h2:q=r
  ·subst h2;simp
  ·rw [if_neg h2,if_neg (by omega)]
   split <;> rfl
theorem z2o {t:T} (hl:Low t) {r:Nat} (hr:r < t.rows.length) (h:z1b t (zv t r) r 0):∀ i,i≤(t.rows.getD r dR).cells.length→z1b t (z0n (zt t r) r (t.rows.getD r dR).cells (zv t r) i) r i
 | 0,_=>h
 | i+1,hi=>(z1b.next (z2o hl hr h i (by omega)) hl hr (by omega)).2
theorem z24 {t:T} (hl:Low t):∀ r,r≤t.rows.length→z1b t (zv t r) r 0
 | 0,_=>z1b.zero t
 | r+1,hr=>(z2o hl (by omega) (z24 hl r (by omega)) _ (Nat.le_refl _)).rowEnd
theorem z2B (e:Int) (r:Nat) (cs:List C) (gs:List GC) (i:Nat):(z0n e r cs gs i).length=gs.length+i:=by
 induction i with
 | zero=>rfl
 | succ i ih=>simp only [z0n,List.length_append,ih,List.length_cons,List.length_nil];omega
theorem z30 {t:T} (hl:Low t) (r:Nat):(zv t r).length≤5 * r:=by
 induction r with
 | zero=>simp [zv]
 | succ r ih =>
  obtain ⟨k,hk⟩:=hl.few;have:=hk r;simp only [zv,z2B]
  split at this <;> omega
def zR (t:T):List GC:=zv t t.rows.length
end
section
open Go.RowKit
structure BW (w:World) where
 u:World
 h:Below w.heap.size w u
theorem z1X (w:World):Nonempty (BW w):=⟨⟨w,Below.refl _ _⟩⟩
theorem z0G {P:Program} {id:Nat} {Q:Exit→Act→World→Prop} {a:Act} {w:World} {l:List Oper} (hm:P.follows .mixedOrders=true) (hB:Region.lexB .any l.toArray=true)
  (h:wpQuiet P l.toArray (fun w'=>∃ p:BW w,w'=p.u) (fun a'=>∀ w',(∃ p:BW w,w'=p.u)→Q .normal a' w') l a):(Code.region id l.toArray true).wp P Q a w :=
 wp_region_quiet (C:=fun w'=>∃ p:BW w,w'=p.u) hm hB ⟨⟨_,z1O (Below.refl _ _)⟩,rfl⟩ (by simpa using h)
theorem z2K {P:Program} {f:FuncId} {args:Array Value} {w:World} {p:BW w} {v:Value} (h:Calls P f args p.u fun e w'=>e=.returned v∧Below p.u.heap.size p.u w') :
  Calls P f args p.u fun e w''=>e=.returned v∧∃ p:BW w,w''=p.u :=
 h.mono fun _ _ ⟨he,hb⟩=>⟨he,⟨_,ze p.h hb⟩,rfl⟩
theorem zj {w:World} {a:Addr} {v:Value} (hb:a.block < w.heap.size) (h:w.cell? a=some v) (p:BW w):p.u.cell? a=some v:=(p.h.cell hb).trans h
end
section
open Go.RowKit Go.BigFrame
def Sm (x:GC):Prop:=(0≤x.row∧x.row≤100000)∧(0≤x.col∧x.col≤100000)∧(0≤x.rows∧x.rows≤100000)∧(0≤x.cols∧x.cols≤100000)
theorem z03.take {w:World} {z:Nat} {ac:Option Addr} {cc:Nat} {gs:List GC} (h:z03 w z (.slice ac gs.length cc) gs) {k:Nat} (hk:k≤gs.length):z03 w z (.slice ac (gs.take k).length cc) (gs.take k):=by
 obtain ⟨a,cap,e,h1,h2,hx⟩:=h;simp only [Value.slice.injEq,true_and] at e;obtain ⟨rfl,rfl⟩:=e;have hl:(gs.take k).length=k:=(by rw [List.length_take];omega);refine ⟨_,_,rfl,by omega,h2,fun i hi=>?_⟩;obtain ⟨b,off,ea,hb,hz,he⟩:=hx i (by omega);have e:(gs.take k).getD i dG=gs.getD i dG:=(by simp [List.getD,show i < k by omega]);exact ⟨b,off,ea,hb,hz,by dsimp only;rw [e];exact he⟩
def gcA (x:GC):Value:=.agg #[.int .i64 x.row,.int .i64 x.col,.int .i64 x.rows,.int .i64 x.cols,.int .i64 x.ins]
theorem z5B {gs:List GC} {x:GC} {k:Nat} (hk:k < gs.length) (h:zZ (gs.getD k dG) x=true):z0k gs x=false:=by
 cases h2:z0k gs x with
 | false=>rfl
 | true =>
  have e:gs.getD k dG=gs[k]:=(by simp [List.getD,hk]);have:=List.all_eq_true.1 h2 gs[k] (List.getElem_mem hk);rw [← e,h] at this
  cases this
theorem z5C {gs:List GC} {x:GC} (h:∀ j,j < gs.length→zZ (gs.getD j dG) x=false):z0k gs x=true:=by
 refine List.all_eq_true.2 (fun a ha=>?_);obtain ⟨i,hi,rfl⟩:=List.mem_iff_getElem.1 ha;have:=h i hi;have e:gs.getD i dG=gs[i]:=(by simp [List.getD,hi]);rw [e] at this;rw [this];rfl
end
section
open Go.RowKit
theorem zu {w:World} {base:Nat} {e:TypeId} {sz:Nat} {v:Value} {m:Nat} {xs:List Value} (h:w.ownsRow base e sz v m xs):∃ a cap,v=.slice a m cap∧m≤maxLen:=by
 rcases h.2 with ⟨rfl,rfl⟩ | ⟨g,cap,cur,rfl,_,_,h1,h2,_⟩
 ·exact ⟨none,0,rfl,by unfold maxLen;omega⟩
 ·exact ⟨_,cap,rfl,Nat.le_trans h1 h2⟩
theorem z16 {α:Type} (f:α→List Value) (sz:Nat) (hf:∀ x,(f x).length=sz) (l:List α) (i:Nat) (hi:i < l.length) (j:Nat) (hj:j < sz):(l.flatMap f)[i * sz+j]?=(f l[i])[j]?:=by
 induction l generalizing i with
 | nil=>simp at hi
 | cons a t ih =>
  rw [List.flatMap_cons]
  cases i with
  | zero=>rw [List.getElem?_append_left (by rw [hf];omega)];simp
  | succ i =>
   rw [List.getElem?_append_right (by rw [hf,Nat.succ_mul];omega),hf];have e:(i+1) * sz+j - sz=i * sz+j:=(by rw [Nat.succ_mul];omega);rw [e,ih i (by simpa using hi)];simp
theorem z2p {α:Type} (f:α→List Value) (sz:Nat) (hf:∀ x,(f x).length=sz) (l:List α):(l.flatMap f).length=l.length * sz:=by
 induction l with
 | nil=>simp
 | cons a t ih=>rw [List.flatMap_cons,List.length_append,hf,ih,List.length_cons,Nat.succ_mul];omega
theorem z1E {w:World} {base:Nat} {e:TypeId} {sz:Nat} {m:Nat} {xs:List Value} {g cap:Nat} (h:w.ownsRow base e sz (.slice (some ⟨g,0,none⟩) m cap) m xs) {k:Nat} {u:Value} (hk:xs[k]?=some u):w.cell? ⟨g,k,none⟩=some u:=by
 have hl:k < xs.length:=(List.getElem?_eq_some_iff.1 hk).1
 rcases h.2 with ⟨e,_⟩ | ⟨g',cap',cur,e,_,hc,_,_,_,ht⟩
 ·simp at e
 ·simp at e;obtain ⟨rfl,rfl⟩:=e;rw [zc hc,← Array.getElem?_toList];rw [← ht,List.getElem?_take_of_lt (by rw [h.1] at hl;exact hl)] at hk;exact hk
theorem z02 {w:World} {g:Nat} {arr:Array Value} {t:TypeId} (h:w.heap[g]?=some (.cells arr t)):∀ j u,arr.toList[j]?=some u→w.cell? ((⟨g,0,none⟩:Addr).add j)=some u:=fun j u hu=>by
 have e:(⟨g,0,none⟩:Addr).add j=⟨g,j,none⟩:=(by simp [Addr.add];intro h;exact h.symm);rw [e,zc h,← Array.getElem?_toList];exact hu
end
end Go.Proofs.Ytggmjiddadjilam
