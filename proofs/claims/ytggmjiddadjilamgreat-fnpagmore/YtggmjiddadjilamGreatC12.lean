/-
  PROVED HERE: what a table is in memory, for the other texts of this claim: cells, columns and rows, each in its place; it stays where what was in memory stays. Also: 16 more texts of the same proof.
-/
import Derived.Test.YtggmjiddadjilamGreatC2
import Derived.Test.YtggmjiddadjilamGreatC6
import Derived.Lib.SmallJoins
set_option maxRecDepth 1000000
set_option maxHeartbeats 40000000
namespace Go.Proofs.YtggmjiddadjilamGreat
section
open Go.RowKit
structure C where
 s:ByteArray
 c:Int
 r:Int
 a1:Int
 b1:Int
 a2:Int
 b2:Int
 a3:Int
 b3:Int
 a4:Int
 b4:Int
structure R where
 cells:List C
 whole:Bool
structure T where
 cols:List (Int × Int)
 head:Int
 foot:Int
 rows:List R
 gap:Int
def dC:C:=⟨ByteArray.empty,0,0,0,0,0,0,0,0,0,0⟩
def dR:R:=⟨[],false⟩
def z7E (w:World) (b o:Nat) (x:C):Prop :=
 w.cell? ⟨b,o,none⟩=some (.string x.s)∧w.cell? ⟨b,o+1,none⟩=some (.int .i64 x.c)∧w.cell? ⟨b,o+2,none⟩=some (.int .i64 x.r) ∧
 w.cell? ⟨b,o+3,none⟩=some (.int .i64 x.a1)∧w.cell? ⟨b,o+4,none⟩=some (.int .i64 x.b1)∧w.cell? ⟨b,o+5,none⟩=some (.int .i64 x.a2)∧w.cell? ⟨b,o+6,none⟩=some (.int .i64 x.b2) ∧
 w.cell? ⟨b,o+7,none⟩=some (.int .i64 x.a3)∧w.cell? ⟨b,o+8,none⟩=some (.int .i64 x.b3)∧w.cell? ⟨b,o+9,none⟩=some (.int .i64 x.a4)∧w.cell? ⟨b,o+10,none⟩=some (.int .i64 x.b4)
def At (w:World) (z:Nat) (v:Value) (n sz:Nat) (E:Nat→Nat→Nat→Prop):Prop :=
 ∃ (a:Option Addr) (cap:Nat),v=.slice a n cap∧n≤cap∧cap≤maxLen∧∀ i,i < n→∃ b off,a=some ⟨b,off,none⟩∧b < w.heap.size∧z≤b∧E i b (off+i * sz)
def z2T (w:World) (z:Nat) (v:Value) (cs:List C):Prop:=At w z v cs.length 11 (fun i b o=>z7E w b o (cs.getD i dC)∧(cs.getD i dC).s.size≤maxLen)
def z07 (w:World) (z:Nat) (v:Value) (ps:List (Int × Int)):Prop:=At w z v ps.length 2 (fun i b o=>w.cell? ⟨b,o,none⟩=some (.int .i64 (ps.getD i (0,0)).1)∧w.cell? ⟨b,o+1,none⟩=some (.int .i64 (ps.getD i (0,0)).2))
def z01 (w:World) (z:Nat) (v:Value) (rs:List R):Prop:=At w z v rs.length 2 (fun i b o=>∃ u,w.cell? ⟨b,o,none⟩=some u∧w.cell? ⟨b,o+1,none⟩=some (.bool (rs.getD i dR).whole)∧z2T w z u (rs.getD i dR).cells)
def z8p (w:World) (z:Nat) (v:Value) (t:T):Prop:=∃ vc vr,v=.agg #[vc,.int .i64 t.head,.int .i64 t.foot,vr,.int .i64 t.gap]∧z07 w z vc t.cols∧z01 w z vr t.rows
structure z0A (z:Nat) (w w':World):Prop where
 size:w.heap.size≤w'.heap.size
 block:∀ k,z≤k→k < w.heap.size→w'.heap[k]?=w.heap[k]?
theorem z0A.of_below {z:Nat} {w w':World} (h:Below w.heap.size w w'):z0A z w w':=⟨h.size,fun k _ hk=>h.block k hk⟩
theorem z0A.refl (z:Nat) (w:World):z0A z w w:=⟨Nat.le_refl _,fun _ _ _=>rfl⟩
theorem z0A.trans {z:Nat} {a b c:World} (h:z0A z a b) (k:z0A z b c):z0A z a c:=⟨Nat.le_trans h.size k.size,fun i h1 h2=>(k.block i h1 (Nat.lt_of_lt_of_le h2 h.size)).trans (h.block i h1 h2)⟩
theorem z0A.set {z:Nat} {a w:World} (h:z0A z a w) {p:Addr} (hp:p.block < z) (v:Value):z0A z a (w.setCell p v) :=
 ⟨by simpa [World.setCell] using h.size,fun k h1 h2=>(Below.heap_setCell _ _ _ _ (by omega)).trans (h.block k h1 h2)⟩
theorem z0A.alloc {z:Nat} {a w:World} (h:z0A z a w) (o:Obj):z0A z a (w.alloc o):=h.trans (z0A.of_below (ze (Below.refl _ _) _))
theorem z0A.cell {z:Nat} {w w':World} (h:z0A z w w') {b:Nat} (h1:z≤b) (h2:b < w.heap.size) (p:Nat):w'.cell? ⟨b,p,none⟩=w.cell? ⟨b,p,none⟩:=World.cell?_of_block (w:=w) (a:=⟨b,p,none⟩) (h.block b h1 h2)
theorem At.mono {w w':World} {z z':Nat} {v:Value} {n sz:Nat} {E E':Nat→Nat→Nat→Prop} (h:At w z v n sz E) (hz:w.heap.size≤w'.heap.size) (hzz:z'≤z) (hE:∀ i b o,i < n→b < w.heap.size→z≤b→E i b o→E' i b o):At w' z' v n sz E':=by
 obtain ⟨a,cap,e,h1,h2,hx⟩:=h;refine ⟨a,cap,e,h1,h2,fun i hi=>?_⟩;obtain ⟨b,off,ea,hb,hzb,he⟩:=hx i hi;exact ⟨b,off,ea,Nat.lt_of_lt_of_le hb hz,Nat.le_trans hzz hzb,hE i b _ hi hb hzb he⟩
theorem z7E.since {w w':World} {z b o:Nat} {x:C} (h:z7E w b o x) (hb:b < w.heap.size) (hz:z≤b) (k:z0A z w w'):z7E w' b o x:=by
 unfold z7E at h ⊢;simp only [k.cell hz hb];exact h
theorem z2T.since {w w':World} {z:Nat} {v:Value} {cs:List C} (h:z2T w z v cs) (k:z0A z w w'):z2T w' z v cs :=
 At.mono h k.size (Nat.le_refl _) (fun _ _ _ _ hb hz he=>⟨he.1.since hb hz k,he.2⟩)
theorem z07.since {w w':World} {z:Nat} {v:Value} {cs:List (Int × Int)} (h:z07 w z v cs) (k:z0A z w w'):z07 w' z v cs :=
 At.mono h k.size (Nat.le_refl _) (fun _ _ _ _ hb hz he=>⟨(k.cell hz hb _).trans he.1,(k.cell hz hb _).trans he.2⟩)
theorem z01.since {w w':World} {z:Nat} {v:Value} {rs:List R} (h:z01 w z v rs) (k:z0A z w w'):z01 w' z v rs :=
 At.mono h k.size (Nat.le_refl _) (fun _ _ _ _ hb hz ⟨u,h1,h2,h3⟩=>⟨u,(k.cell hz hb _).trans h1,(k.cell hz hb _).trans h2,h3.since k⟩)
theorem z8p.since {w w':World} {z:Nat} {v:Value} {t:T} (h:z8p w z v t) (k:z0A z w w'):z8p w' z v t:=by
 obtain ⟨vc,vr,e,h1,h2⟩:=h;exact ⟨vc,vr,e,h1.since k,h2.since k⟩
theorem z2T.kept {w w':World} {z:Nat} {v:Value} {cs:List C} (h:z2T w z v cs) (k:Below w.heap.size w w'):z2T w' z v cs:=h.since (.of_below k)
theorem z07.kept {w w':World} {z:Nat} {v:Value} {cs:List (Int × Int)} (h:z07 w z v cs) (k:Below w.heap.size w w'):z07 w' z v cs:=h.since (.of_below k)
theorem z01.kept {w w':World} {z:Nat} {v:Value} {rs:List R} (h:z01 w z v rs) (k:Below w.heap.size w w'):z01 w' z v rs:=h.since (.of_below k)
theorem z8p.kept {w w':World} {z:Nat} {v:Value} {t:T} (h:z8p w z v t) (k:Below w.heap.size w w'):z8p w' z v t:=h.since (.of_below k)
theorem z2T.base {w:World} {z z':Nat} {v:Value} {cs:List C} (h:z2T w z v cs) (hz:z'≤z):z2T w z' v cs:=At.mono h (Nat.le_refl _) hz (fun _ _ _ _ _ _ he=>he)
theorem z07.base {w:World} {z z':Nat} {v:Value} {cs:List (Int × Int)} (h:z07 w z v cs) (hz:z'≤z):z07 w z' v cs:=At.mono h (Nat.le_refl _) hz (fun _ _ _ _ _ _ he=>he)
theorem z01.base {w:World} {z z':Nat} {v:Value} {rs:List R} (h:z01 w z v rs) (hz:z'≤z):z01 w z' v rs:=At.mono h (Nat.le_refl _) hz (fun _ _ _ _ _ _ ⟨u,h1,h2,h3⟩=>⟨u,h1,h2,h3.base hz⟩)
theorem At.get {w:World} {z:Nat} {v:Value} {n sz:Nat} {E:Nat→Nat→Nat→Prop} (h:At w z v n sz E) {i:Nat} (hi:i < n):∃ b off cap,v=.slice (some ⟨b,off,none⟩) n cap∧n≤cap∧cap≤maxLen∧b < w.heap.size∧E i b (off+i * sz):=by
 obtain ⟨a,cap,e,h1,h2,hx⟩:=h;obtain ⟨b,off,rfl,hb,_,he⟩:=hx i hi;exact ⟨b,off,cap,e,h1,h2,hb,he⟩
theorem At.form {w:World} {z:Nat} {v:Value} {n sz:Nat} {E:Nat→Nat→Nat→Prop} (h:At w z v n sz E):∃ a cap,v=.slice a n cap∧n≤maxLen:=by
 obtain ⟨a,cap,e,h1,h2,_⟩:=h;exact ⟨a,cap,e,Nat.le_trans h1 h2⟩
def zh5:List C→Nat
 | []=>0
 | x :: r=>1+x.s.size+zh5 r
def zjh:List R→Nat
 | []=>0
 | x :: r=>1+zh5 x.cells+zjh r
def zkD (t:T):Nat:=t.cols.length+zjh t.rows
def zkE (cs:List C) (k:Nat):Nat:=((cs.take k).map (fun x=>x.s.size)).sum
def zkF (rs:List R) (k:Nat):Nat:=((rs.take k).map (fun x=>zh5 x.cells)).sum
theorem z2U (w:World) (p:Addr) (v:Value):(w.setCell p v).heap.size=w.heap.size:=by simp [World.setCell]
theorem zj (w:World) (q:Obj):(w.alloc q).heap[w.heap.size]?=some q:=by show (w.heap.push q)[w.heap.size]?=_;simp
theorem zf {w:World} {g p:Nat} {arr:Array Value} {t:TypeId} (h:w.heap[g]?=some (.cells arr t)):w.cell? ⟨g,p,none⟩=arr[p]?:=Joins.cell_of_block h p
theorem z8q {w:World} {g p:Nat} {arr:Array Value} {t:TypeId} (h:w.heap[g]?=some (.cells arr t)) (hp:p < arr.size):∃ v,w.cell? ⟨g,p,none⟩=some v:=⟨_,(zf h).trans (Array.getElem?_eq_getElem hp)⟩
theorem zM {w:World} {g p:Nat} {arr:Array Value} {t:TypeId} (h:w.heap[g]?=some (.cells arr t)):w.frozen? ⟨g,p,none⟩=false:=Joins.unfrozen_of_block h p
theorem z0l {w:World} {g p:Nat} {arr:Array Value} {t:TypeId} (h:w.heap[g]?=some (.cells arr t)) (v:Value):(w.setCell ⟨g,p,none⟩ v).heap[g]?=some (.cells (arr.setIfInBounds p v) t):=Joins.block_setCell h v
def zkv (n:Int) (m:Nat):Int:=if (m:Int)≤n then n - m else -1
theorem z6J {a b:Int} (h:a=b):Ending.returned (.int .i64 a)=.returned (.int .i64 b):=by rw [h]
def inB (n lo hi:Int):Bool:=decide (lo≤n∧n≤hi)
theorem zN {a b:Bool} (h:a=b):Ending.returned (.bool a)=.returned (.bool b):=by rw [h]
theorem z4n {n lo hi:Int} (h1:lo≤n) (h2:n≤hi):inB n lo hi=true:=by simp [inB,h1,h2]
theorem z2V {n lo hi:Int} (h:¬ (lo≤n∧n≤hi)):inB n lo hi=false:=by simp only [inB,h,decide_false]
theorem zO (n lo hi:Int) (w:World) :
  Calls Tryz.prog 46 #[.int .i64 n,.int .i64 lo,.int .i64 hi] w fun e w'=>e=.returned (.bool (inB n lo hi))∧w'=w:=by
 by_cases h1:lo≤n
 ·by_cases h2:n≤hi
  ·have HB:Hid (inB n lo hi=true):=z4n h1 h2;go_enter Tryz.func46,Tryz.ntmps46;go_wp2;go_ret;exact ⟨zN HB.out.symm,rfl⟩
  ·have HB:Hid (inB n lo hi=false):=z2V (by omega);go_enter Tryz.func46,Tryz.ntmps46;go_wp2;go_ret;exact ⟨zN HB.out.symm,rfl⟩
 ·have HB:Hid (inB n lo hi=false):=z2V (by omega);go_enter Tryz.func46,Tryz.ntmps46;go_wp2;go_ret;exact ⟨zN HB.out.symm,rfl⟩
theorem z0n (n lo hi:Int) (w:World) :
  Calls Tryz.prog 26 #[.int .i64 n,.int .i64 lo,.int .i64 hi] w fun e w'=>e=.returned (.bool (inB n lo hi))∧w'=w:=by
 by_cases h1:lo≤n
 ·by_cases h2:n≤hi
  ·have HB:Hid (inB n lo hi=true):=z4n h1 h2;go_enter Tryz.func26,Tryz.ntmps26;go_wp2;go_ret;exact ⟨zN HB.out.symm,rfl⟩
  ·have HB:Hid (inB n lo hi=false):=z2V (by omega);go_enter Tryz.func26,Tryz.ntmps26;go_wp2;go_ret;exact ⟨zN HB.out.symm,rfl⟩
 ·have HB:Hid (inB n lo hi=false):=z2V (by omega);go_enter Tryz.func26,Tryz.ntmps26;go_wp2;go_ret;exact ⟨zN HB.out.symm,rfl⟩
def z1f (a b:Int):Bool:=decide ((a=0∨a=4)∧b=0∨(1≤a∧a≤3)∧1≤b∧b≤3)
theorem zc2 (b:Int):z1f 0 b=(b == 0):=by rw [Bool.eq_iff_iff];simp [z1f]
theorem zc3 (b:Int):z1f 4 b=(b == 0):=by rw [Bool.eq_iff_iff];simp [z1f];
theorem z70 {a:Int} (b:Int) (h1:1≤a) (h2:a≤3):z1f a b=inB b 1 3:=by rw [Bool.eq_iff_iff];simp [z1f,inB];omega
theorem zaP {a:Int} (b:Int) (h0:a ≠ 0) (h4:a ≠ 4) (h:¬ (1≤a∧a≤3)):z1f a b=false:=by simp [z1f];omega
def z0h (s:ByteArray) (c r a1 b1 a2 b2 a3 b3 a4 b4:Int):Bool:=z0k s && (inB c 1 4 && (inB r 1 4 && (z1f a1 b1 && (z1f a2 b2 && (z1f a3 b3 && z1f a4 b4)))))
theorem Hid.mk {p:Prop} (h:p):Hid p:=h
def z2n (k n:Int):Bool:=decide (k=0∧n=0∨k=1∧0≤n∧n≤60∨k=2∧1≤n∧n≤100)
theorem zjl (n:Int):z2n 0 n=inB n 0 0:=by rw [Bool.eq_iff_iff];simp [z2n,inB];omega
theorem ziv (n:Int):z2n 0 n=(n == 0):=by rw [Bool.eq_iff_iff];simp [z2n]
theorem zfp (n:Int):z2n 1 n=inB n 0 60:=by rw [Bool.eq_iff_iff];simp [z2n,inB]
theorem zfq (n:Int):z2n 2 n=inB n 1 100:=by rw [Bool.eq_iff_iff];simp [z2n,inB]
theorem zdZ {k:Int} (n:Int) (h0:k ≠ 0) (h1:k ≠ 1) (h2:k ≠ 2):z2n k n=false:=by simp [z2n];omega
def cB (x:C):Bool:=z0h x.s x.c x.r x.a1 x.b1 x.a2 x.b2 x.a3 x.b3 x.a4 x.b4
def z28 (r:R):Bool:=decide (r.cells.length≤5) && r.cells.all cB
def z2c (ps:List (Int × Int)):Bool:=decide (ps.length≤8) && ps.all (fun p=>z2n p.1 p.2)
def z25 (n:Nat) (hd ft:Int):Bool:=inB hd 0 n && inB ft 0 (n - hd)
theorem z53 {α:Type} (d:α) (p:α→Bool) (l:List α) (h:∀ j,j < l.length→p (l.getD j d)=true):l.all p=true:=by
 rw [List.all_eq_true];intro x hx;obtain ⟨j,hj,rfl⟩:=List.getElem_of_mem hx;have e:l.getD j d=l[j]:=(by simp [List.getD,hj]);rw [← e];exact h j hj
theorem z4y {α:Type} (d:α) (p:α→Bool) (l:List α) (k:Nat) (hk:k < l.length) (h:p (l.getD k d)=false):l.all p=false:=by
 have e:l.getD k d=l[k]:=(by simp [List.getD,hk]);rw [e] at h
 cases hb:l.all p with
 | false=>rfl
 | true=>rw [List.all_eq_true.1 hb _ (List.getElem_mem hk)] at h;cases h
theorem z4z {α:Type} {d:α} {p:α→Bool} {l:List α} {k:Nat} (h:∀ j,j < k→p (l.getD j d)=true) (hk:p (l.getD k d)=true):∀ j,j < k+1→p (l.getD j d)=true:=by
 intro j hj
 rcases Nat.lt_or_eq_of_le (Nat.lt_succ_iff.1 hj) with h1 | h1
 ·exact h j h1
 ·rw [h1];exact hk
def zC (t:T):Bool:=inB t.rows.length 1 8 && (z25 t.rows.length t.head t.foot && (inB t.gap 0 3 && (z2c t.cols && t.rows.all z28)))
theorem z2F (w:World) (q:Obj):(w.alloc q).heap[w.heap.size]?=some q:=by show (w.heap.push q)[w.heap.size]?=_;simp
theorem zU {w:World} {g:Nat} {x0 x1 x2 x3 x4:Value} {t:TypeId} (h:w.heap[g]?=some (.cells #[x0,x1,x2,x3,x4] t)) :
  w.cell? ⟨g,0,none⟩=some x0∧w.cell? ⟨g,1,none⟩=some x1∧w.cell? ⟨g,2,none⟩=some x2∧w.cell? ⟨g,3,none⟩=some x3∧w.cell? ⟨g,4,none⟩=some x4 :=
 ⟨Joins.cell_of_block h 0,Joins.cell_of_block h 1,Joins.cell_of_block h 2,Joins.cell_of_block h 3,Joins.cell_of_block h 4⟩
def z06 (t:T) (q:Int):Int:=if zC t=true∧inB q 0 (t.rows.length - 1)=true then (if q < t.head then 0 else if t.rows.length - t.foot≤q then 2 else 1) else -1
theorem z6i {a b:Int} (h:a=b):Ending.returned (.int .i64 a)=.returned (.int .i64 b):=by rw [h]
theorem z0Q {t:T} (h:zC t=true):(1≤t.rows.length∧t.rows.length≤8)∧(0≤t.head∧t.head≤t.rows.length)∧0≤t.foot∧t.foot≤t.rows.length:=by
 simp only [zC,z25,Bool.and_eq_true] at h;have h1:(1:Int)≤t.rows.length∧(t.rows.length:Int)≤8:=of_decide_eq_true h.1;have h2:0≤t.head∧t.head≤t.rows.length:=of_decide_eq_true h.2.1.1;have h3:0≤t.foot∧t.foot≤t.rows.length - t.head:=of_decide_eq_true h.2.1.2;omega
structure GC where
 row:Int
 col:Int
 rows:Int
 cols:Int
 ins:Int
structure G where
 rows:Int
 cols:Int
 cells:List GC
def dG:GC:=⟨0,0,0,0,0⟩
def I64 (n:Int):Prop:=-9223372036854775808≤n∧n≤9223372036854775807
def GOk (x:GC):Prop:=I64 x.row∧I64 x.col∧I64 x.rows∧I64 x.cols∧I64 x.ins
def GIs (w:World) (b o:Nat) (x:GC):Prop :=
 w.cell? ⟨b,o,none⟩=some (.int .i64 x.row)∧w.cell? ⟨b,o+1,none⟩=some (.int .i64 x.col)∧w.cell? ⟨b,o+2,none⟩=some (.int .i64 x.rows) ∧
 w.cell? ⟨b,o+3,none⟩=some (.int .i64 x.cols)∧w.cell? ⟨b,o+4,none⟩=some (.int .i64 x.ins)
def z1I (w:World) (z:Nat) (v:Value) (gs:List GC):Prop:=At w z v gs.length 5 (fun i b o=>GIs w b o (gs.getD i dG)∧GOk (gs.getD i dG))
def zkz (w:World) (z:Nat) (v:Value) (g:G):Prop:=∃ vc,v=.agg #[.int .i64 g.rows,.int .i64 g.cols,vc]∧z1I w z vc g.cells
theorem GIs.since {w w':World} {z b o:Nat} {x:GC} (h:GIs w b o x) (hb:b < w.heap.size) (hz:z≤b) (k:z0A z w w'):GIs w' b o x:=by
 unfold GIs at h ⊢;simp only [k.cell hz hb];exact h
theorem z1I.since {w w':World} {z:Nat} {v:Value} {gs:List GC} (h:z1I w z v gs) (k:z0A z w w'):z1I w' z v gs :=
 At.mono h k.size (Nat.le_refl _) (fun _ _ _ _ hb hz he=>⟨he.1.since hb hz k,he.2⟩)
theorem z1I.kept {w w':World} {z:Nat} {v:Value} {gs:List GC} (h:z1I w z v gs) (k:Below w.heap.size w w'):z1I w' z v gs:=h.since (.of_below k)
theorem z1I.base {w:World} {z z':Nat} {v:Value} {gs:List GC} (h:z1I w z v gs) (hz:z'≤z):z1I w z' v gs:=At.mono h (Nat.le_refl _) hz (fun _ _ _ _ _ _ he=>he)
def zkx (p:GC→Bool) (gs:List GC):Int:=match gs.findIdx? p with | some k=>(k:Int) | none=>-1
def z3X (R C:Int) (n:Nat):Bool:=inB R 1 8 && (inB C 1 94 && decide (n≤40))
def z0U (R C:Int) (x:GC):Bool:=inB x.row 0 (R - 1) && (inB x.rows 1 (R - x.row) && (inB x.col 0 (C - 1) && (inB x.cols 1 (C - x.col) && inB x.ins 0 4)))
def z12 (a b:GC):Bool:=decide (a.row < b.row+b.rows) && (decide (b.row < a.row+a.rows) && (decide (a.col < b.col+b.cols) && decide (b.col < a.col+a.cols)))
def z1c (xs:List GC) (x:GC):Bool:=xs.all fun a=>!z12 a x
def z64 (R C:Int) (gs:List GC) (k:Nat):Bool:=(List.range k).all fun i=>z0U R C (gs.getD i dG) && z1c (gs.take i) (gs.getD i dG)
def okB (g:G):Bool:=z3X g.rows g.cols g.cells.length && z64 g.rows g.cols g.cells g.cells.length
theorem zfx (R C:Int) (gs:List GC):z64 R C gs 0=true:=rfl
theorem zfy {R C:Int} {gs:List GC} {k:Nat} (h:z64 R C gs k=true) (h1:z0U R C (gs.getD k dG)=true) (h2:z1c (gs.take k) (gs.getD k dG)=true):z64 R C gs (k+1)=true:=by
 unfold z64 at h ⊢;rw [List.range_succ,List.all_append,h];simp only [List.all_cons,h1,h2,List.all_nil,Bool.and_self]
theorem zex {R C:Int} {gs:List GC} {k n:Nat} (hk:k < n) (h:(z0U R C (gs.getD k dG) && z1c (gs.take k) (gs.getD k dG))=false):z64 R C gs n=false:=by
 cases h2:z64 R C gs n with
 | false=>rfl
 | true=>rw [List.all_eq_true.1 h2 k (List.mem_range.2 hk)] at h;cases h
theorem z74 {g:G} (h:z3X g.rows g.cols g.cells.length=false):okB g=false:=by simp only [okB,h,Bool.false_and]
theorem zey {g:G} (h:z64 g.rows g.cols g.cells g.cells.length=false):okB g=false:=by simp only [okB,h,Bool.and_false]
theorem zaR {R C:Int} {n:Nat} (h:z3X R C n=true):1≤R∧R≤8∧1≤C∧C≤94∧n≤40:=by
 simp [z3X,inB] at h;omega
theorem z7J {R C:Int} {n:Nat} (h1:inB R 1 8=true) (h2:inB C 1 94=true) (h3:n≤40):z3X R C n=true:=by simp [z3X,h1,h2,h3]
def zjm (R C:Int) (x:GC) (r c rs cs:Nat):Prop:=x.row=r∧x.col=c∧x.rows=rs∧x.cols=cs∧1≤rs∧1≤cs∧((r+rs:Nat):Int)≤R∧((c+cs:Nat):Int)≤C
theorem z3Y {R C:Int} {x:GC} (h:z0U R C x=true):zjm R C x x.row.toNat x.col.toNat x.rows.toNat x.cols.toNat:=by
 simp [z0U,inB] at h;unfold zjm;omega
def z4f (x:GC):List Sl:=z1b x.row.toNat x.col.toNat x.cols.toNat x.rows.toNat
def z0C (gs:List GC):List (Nat × Nat):=(gs.flatMap z4f).map (·.1)
theorem zc9 (gs:List GC) (x:GC):z0C (gs ++ [x])=z0C gs ++ (z4f x).map (·.1):=by simp [z0C]
theorem zez {r c rs cs:Nat} (hr:r+rs≤1000) (hc:c+cs≤1000) (y:Nat × Nat):y ∈ (z1b r c cs rs).map (·.1) ↔ (r≤y.1∧y.1 < r+rs)∧c≤y.2∧y.2 < c+cs:=by
 simp only [z1b,z3m,List.mem_map,List.mem_flatMap,List.mem_range];constructor
 ·rintro ⟨z,⟨i,hi,j,hj,rfl⟩,rfl⟩;rw [z90 (by omega)];dsimp only;omega
 ·rintro ⟨⟨h1,h2⟩,h3,h4⟩;refine ⟨z7H (r+(y.1 - r)) (c+(y.2 - c)),⟨y.1 - r,by omega,y.2 - c,by omega,rfl⟩,?_⟩;rw [z90 (by omega)];exact Prod.ext (by dsimp only;omega) (by dsimp only;omega)
theorem z5G {R C:Int} {x:GC} (h:z0U R C x=true) (hR:R≤8) (hC:C≤94) (y:Nat × Nat):y ∈ (z4f x).map (·.1) ↔ (x.row≤y.1∧(y.1:Int) < x.row+x.rows)∧x.col≤y.2∧(y.2:Int) < x.col+x.cols:=by
 obtain ⟨e1,e2,e3,e4,h1,h2,h3,h4⟩:=z3Y h;unfold z4f;rw [zez (by omega) (by omega)];omega
theorem zaS {R C:Int} {a x:GC} (ha:z0U R C a=true) (hx:z0U R C x=true) (hR:R≤8) (hC:C≤94):z12 a x=true ↔ ∃ y,y ∈ (z4f a).map (·.1)∧y ∈ (z4f x).map (·.1):=by
 obtain ⟨a1,a2,a3,a4,a5,a6,a7,a8⟩:=z3Y ha;obtain ⟨x1,x2,x3,x4,x5,x6,x7,x8⟩:=z3Y hx;have e:z12 a x=true ↔ a.row < x.row+x.rows∧x.row < a.row+a.rows∧a.col < x.col+x.cols∧x.col < a.col+a.cols:=(by simp [z12]);rw [e];constructor
 ·rintro ⟨h1,h2,h3,h4⟩;refine ⟨(max a.row.toNat x.row.toNat,max a.col.toNat x.col.toNat),(z5G ha hR hC _).2 ?_,(z5G hx hR hC _).2 ?_⟩
  ·dsimp only;omega
  ·dsimp only;omega
 ·rintro ⟨y,h1,h2⟩;have k1:=(z5G ha hR hC _).1 h1;have k2:=(z5G hx hR hC _).1 h2;omega
theorem ziy {R C:Int} {gs:List GC} {x:GC} (hg:∀ a ∈ gs,z0U R C a=true) (hx:z0U R C x=true) (hR:R≤8) (hC:C≤94):z63 (z0C gs) x.row.toNat x.col.toNat x.rows.toNat x.cols.toNat=z1c gs x:=by
 rw [Bool.eq_iff_iff];unfold z63 z1c;rw [List.all_eq_true,List.all_eq_true];constructor
 ·intro h a ha
  cases hm:z12 a x with
  | false=>rfl
  | true =>
   obtain ⟨y,h1,h2⟩:=(zaS (hg a ha) hx hR hC).1 hm;obtain ⟨z,hz,rfl⟩:=List.mem_map.1 h2;have:=of_decide_eq_true (h z hz);refine absurd ?_ this;obtain ⟨u,hu,e⟩:=List.mem_map.1 h1;exact List.mem_map.2 ⟨u,List.mem_flatMap.2 ⟨a,ha,hu⟩,e⟩
 ·intro h z hz;refine decide_eq_true (fun hm=>?_);obtain ⟨u,hu,e⟩:=List.mem_map.1 hm;obtain ⟨a,ha,hua⟩:=List.mem_flatMap.1 hu;have:=h a ha;rw [(zaS (hg a ha) hx hR hC).2 ⟨z.1,List.mem_map.2 ⟨u,hua,e⟩,List.mem_map.2 ⟨z,hz,rfl⟩⟩] at this
  cases this
theorem zaT {R C:Int} {gs:List GC} {k:Nat} (hk:k≤gs.length) (h:z64 R C gs k=true):∀ a ∈ gs.take k,z0U R C a=true:=by
 intro a ha;obtain ⟨i,hi,rfl⟩:=List.mem_iff_getElem.1 ha;rw [List.length_take] at hi;have:=List.all_eq_true.1 h i (List.mem_range.2 (by omega));rw [Bool.and_eq_true] at this;have e:gs.getD i dG=(gs.take k)[i]:=(by simp [List.getD,show i < gs.length by omega]);rw [← e];exact this.1
theorem zfz (r c a:Nat):(z3m r c a).length=a:=by simp [z3m]
theorem zeA (r c cs d:Nat):(z1b r c cs d).length=d * cs:=by
 induction d with
 | zero=>simp [z1b]
 | succ d ih=>rw [z6D,List.length_append,ih,zfz,Nat.succ_mul]
theorem z9v {R C:Int} {x:GC} (h:z0U R C x=true) (hR:R≤8) (hC:C≤94):(z4f x).length≤752:=by
 obtain ⟨e1,e2,e3,e4,h1,h2,h3,h4⟩:=z3Y h;unfold z4f;rw [zeA];have a1:x.rows.toNat≤8:=(by omega);have a2:x.cols.toNat≤94:=(by omega);exact Nat.mul_le_mul a1 a2
theorem z8F {R C:Int} (hR:R≤8) (hC:C≤94):∀ (gs:List GC),(∀ a ∈ gs,z0U R C a=true)→(z0C gs).length≤gs.length * 752
 | [],_=>by simp [z0C]
 | a :: t,h=>by
  have h1:=z9v (h a (by simp)) hR hC;have h2:=z8F hR hC t (fun b hb=>h b (by simp [hb]));simp only [z0C,List.length_map,List.flatMap_cons,List.length_append,List.length_cons] at h2 ⊢;omega
end
section
theorem zkg (l:Int) (N:Nat):(((List.range N).countP (fun c:Nat=>decide (l≤(c:Int)∧(c:Int) < l+7)):Nat):Int)≤max 0 (min 7 (N - l)):=by
 induction N with
 | zero=>simp;omega
 | succ N ih =>
  rw [List.range_succ,List.countP_append,List.countP_cons,List.countP_nil];by_cases h:l≤(N:Int)∧(N:Int) < l+7
  ·rw [if_pos (decide_eq_true h)];omega
  ·rw [if_neg (by simpa using h)];omega
theorem zfD {α:Type} (p q:α→Bool) (l:List α):l.countP (fun x=>p x || q x)≤l.countP p+l.countP q:=by
 induction l with
 | nil=>simp
 | cons a t ih =>
  rw [List.countP_cons,List.countP_cons,List.countP_cons]
  cases p a <;> cases q a <;> simp <;> omega
theorem zcb (N:Nat):∀ ls:List Int,(List.range N).countP (fun c:Nat=>ls.any fun l=>decide (l≤(c:Int)∧(c:Int) < l+7))≤7 * ls.length
 | []=>by simp
 | l :: t=>by
  have h1:=zcb N t;have h2:=zkg l N;have h3:=zfD (fun c:Nat=>decide (l≤(c:Int)∧(c:Int) < l+7)) (fun c:Nat=>t.any fun l=>decide (l≤(c:Int)∧(c:Int) < l+7)) (List.range N);simp only [List.any_cons,List.length_cons];omega
theorem zfE (ls:List Int):∃ c:Nat,c≤7 * ls.length∧∀ l ∈ ls,¬ (l≤(c:Int)∧(c:Int) < l+7):=by
 apply Classical.byContradiction;intro hn
 have hall:∀ c ∈ List.range (7 * ls.length+1),(ls.any fun l=>decide (l≤(c:Int)∧(c:Int) < l+7))=true:=by
  intro c hc;rw [List.mem_range] at hc;apply Classical.byContradiction;intro h;refine hn ⟨c,by omega,fun l hl h2=>h ?_⟩;exact List.any_eq_true.2 ⟨l,hl,decide_eq_true h2⟩
 have h1:=List.countP_eq_length.2 hall;have h2:=zcb (7 * ls.length+1) ls;rw [List.length_range] at h1;omega
def z1h (x:GC) (c:Int):GC:=⟨x.row,c,x.rows,x.cols,x.ins⟩
def z54 (a x:GC):Bool:=decide (a.row < x.row+x.rows) && decide (x.row < a.row+a.rows)
theorem zdt (gs:List GC) (x:GC) (hx:1≤x.cols∧x.cols≤4) (hg:∀ a ∈ gs,1≤a.cols∧a.cols≤4):∃ c:Nat,c≤7 * (gs.filter fun a=>z54 a x).length∧z1c gs (z1h x c)=true:=by
 obtain ⟨c,h1,h2⟩:=zfE ((gs.filter fun a=>z54 a x).map fun a=>a.col - x.cols+1);rw [List.length_map] at h1;refine ⟨c,h1,List.all_eq_true.2 fun a ha=>?_⟩
 cases hm:z12 a (z1h x c) with
 | false=>rfl
 | true =>
  exfalso
  unfold z12 z1h at hm;simp only [Bool.and_eq_true,decide_eq_true_eq] at hm;have hc:=hg a ha;refine h2 (a.col - x.cols+1) (List.mem_map.2 ⟨a,List.mem_filter.2 ⟨ha,?_⟩,rfl⟩) (by omega);simp only [z54,Bool.and_eq_true,decide_eq_true_eq];omega
def z4O (N:Nat) (gs:List GC) (x:GC):Nat:=(List.range N).findIdx (fun c:Nat=>z1c gs (z1h x c))
theorem zfF {N:Nat} {gs:List GC} {x:GC} {c:Nat} (hc:c < N) (h:z1c gs (z1h x c)=true):z4O N gs x≤c∧z1c gs (z1h x (z4O N gs x))=true∧∀ k,k < z4O N gs x→z1c gs (z1h x (k:Nat))=false:=by
 have hl:z4O N gs x < (List.range N).length:=List.findIdx_lt_length_of_exists ⟨c,List.mem_range.2 hc,h⟩
 have hno:∀ k,k < z4O N gs x→z1c gs (z1h x (k:Nat))=false:=by
  intro k hk;have:=List.not_of_lt_findIdx (p:=fun c:Nat=>z1c gs (z1h x c)) (xs:=List.range N) hk
  simpa using this
 refine ⟨?_,?_,hno⟩
 ·apply Classical.byContradiction;intro hn;have:=hno c (by omega);rw [h] at this
  cases this
 ·have e:(List.range N)[z4O N gs x]'hl=z4O N gs x:=List.getElem_range hl;have h1:z1c gs (z1h x (((List.range N)[z4O N gs x]'hl:Nat):Int))=true:=List.findIdx_getElem (p:=fun c:Nat=>z1c gs (z1h x c)) (xs:=List.range N) (w:=hl);rw [e] at h1;exact h1
def z5n (gs:List GC) (x:GC):Nat:=z4O 1000 gs x
theorem zhd {gs:List GC} {x:GC} {c:Nat} (hc:c < 1000) (h:z1c gs (z1h x c)=true):z5n gs x≤c∧z1c gs (z1h x (z5n gs x))=true∧∀ k,k < z5n gs x→z1c gs (z1h x (k:Nat))=false:=zfF hc h
def zV (t:T) (r:Nat):Int:=if (r:Int) < t.head then t.head else if (t.rows.length:Int) - t.foot≤r then t.rows.length else t.rows.length - t.foot
def z4b (r i:Nat) (e:Int) (x:C):GC:=⟨r,0,min x.r (e - r),x.c,i⟩
def z1n (gs:List GC) (r i:Nat) (e:Int) (x:C):GC:=z1h (z4b r i e x) (z5n gs (z4b r i e x))
def z1P (e:Int) (r:Nat) (cs:List C) (gs:List GC):Nat→List GC
 | 0=>gs
 | i+1=>z1P e r cs gs i ++ [z1n (z1P e r cs gs i) r i e (cs.getD i dC)]
def zX (t:T):Nat→List GC
 | 0=>[]
 | r+1=>z1P (zV t r) r (t.rows.getD r dR).cells (zX t r) (t.rows.getD r dR).cells.length
def z0q (m:Int) (gs:List GC):Int:=gs.foldl (fun m a=>max m (a.col+a.cols)) m
theorem z5o (m:Int) (gs:List GC) (x:GC):z0q m (gs ++ [x])=max (z0q m gs) (x.col+x.cols):=by simp [z0q]
structure Low (t:T):Prop where
 rows:t.rows.length≤8
 span:∀ r ∈ t.rows,∀ x ∈ r.cells,(1≤x.c∧x.c≤4)∧1≤x.r∧x.r≤3
 few:∃ k,∀ i,(t.rows.getD i dR).cells.length≤if i=k then 5 else 4
 head:0≤t.head∧t.head≤t.rows.length
 foot:0≤t.foot∧t.head+t.foot≤t.rows.length
def z1o (n:Nat) (a:GC):Prop:=(0≤a.row∧1≤a.rows∧a.rows≤3∧a.row+a.rows≤n)∧(0≤a.col∧a.col≤84)∧(1≤a.cols∧a.cols≤4)∧0≤a.ins∧a.ins≤4
theorem z65 {t:T} (h:Low t) {r:Nat} (hr:r < t.rows.length):(r:Int) < zV t r∧zV t r≤t.rows.length:=by
 have h1:=h.head;have h2:=h.foot;unfold zV
 split
 ·omega
 ·split <;> omega
def z39 (gs:List GC) (q:Int):Nat:=gs.countP fun a=>decide (a.row=q)
theorem z8I (gs:List GC) (x:GC) (q:Int):z39 (gs ++ [x]) q=z39 gs q+if x.row=q then 1 else 0:=by
 simp [z39,List.countP_append,List.countP_cons]
theorem zcc (r:Nat) (x:GC) (hx:x.row=r):∀ gs:List GC,(∀ a ∈ gs,a.row≤r∧a.rows≤3)→(gs.filter fun a=>z54 a x).length≤z39 gs r+(z39 gs ((r:Int) - 1)+z39 gs ((r:Int) - 2))
 | [],_=>by simp
 | a :: t,h=>by
  have ih:=zcc r x hx t (fun b hb=>h b (by simp [hb]));have ha:=h a (by simp);unfold z39 at ih ⊢;rw [List.countP_cons,List.countP_cons,List.countP_cons,List.filter_cons]
  split
  ·rename_i hm
   simp only [z54,Bool.and_eq_true,decide_eq_true_eq] at hm;rw [List.length_cons]
   rcases (by omega:a.row=r∨a.row=(r:Int) - 1∨a.row=(r:Int) - 2) with e | e | e
   ·simp [e];omega
   ·simp [e];omega
   ·simp [e];omega
  ·omega
structure z3B (t:T) (gs:List GC) (r i:Nat):Prop where
 stands:∀ a ∈ gs,z1o t.rows.length a∧a.row≤r
 cnt:∀ q:Nat,z39 gs q=if q < r then (t.rows.getD q dR).cells.length else if q=r then i else 0
 neg:∀ q:Int,q < 0→z39 gs q=0
theorem z3B.few {t:T} {gs:List GC} {r i:Nat} (h:z3B t gs r i) (hl:Low t) (hi:i < (t.rows.getD r dR).cells.length) (x:GC) (hx:x.row=r):(gs.filter fun a=>z54 a x).length≤12:=by
 have h1:=zcc r x hx gs (fun a ha=>⟨(h.stands a ha).2,(h.stands a ha).1.1.2.2.1⟩);obtain ⟨k,hk⟩:=hl.few;have k0:=hk r;have c0:=h.cnt r;rw [if_neg (by omega),if_pos rfl] at c0
 have c1:z39 gs ((r:Int) - 1)≤if r - 1=k∧1≤r then 5 else 4:=by
  by_cases hr:1≤r
  ·have e:=h.cnt (r - 1);rw [if_pos (by omega),show ((r - 1:Nat):Int)=(r:Int) - 1 by omega] at e;have:=hk (r - 1)
   split at this <;> split <;> omega
  ·rw [h.neg _ (by omega)];omega
 have c2:z39 gs ((r:Int) - 2)≤if r - 2=k∧2≤r then 5 else 4:=by
  by_cases hr:2≤r
  ·have e:=h.cnt (r - 2);rw [if_pos (by omega),show ((r - 2:Nat):Int)=(r:Int) - 2 by omega] at e;have:=hk (r - 2)
   split at this <;> split <;> omega
  ·rw [h.neg _ (by omega)];omega
 split at k0 <;> split at c1 <;> split at c2 <;> omega
theorem z2i {α:Type} {l:List α} {i:Nat} {d:α} (h:i < l.length):l.getD i d ∈ l:=by
 have e:l.getD i d=l[i]:=(by simp [List.getD,h]);rw [e];exact List.getElem_mem _
theorem z3B.next {t:T} {gs:List GC} {r i:Nat} (h:z3B t gs r i) (hl:Low t) (hr:r < t.rows.length) (hi:i < (t.rows.getD r dR).cells.length) :
  (let x:=z4b r i (zV t r) ((t.rows.getD r dR).cells.getD i dC)
   z5n gs x≤84∧z1c gs (z1h x (z5n gs x))=true∧(∀ k,k < z5n gs x→z1c gs (z1h x (k:Nat))=false)∧∀ k:Nat,k≤84→z1o t.rows.length (z1h x k)) ∧
  z3B t (gs ++ [z1n gs r i (zV t r) ((t.rows.getD r dR).cells.getD i dC)]) r (i+1):=by
 have hm:=z2i (d:=dR) hr;have hx:=hl.span _ hm _ (z2i (d:=dC) hi);have he:=z65 hl hr
 have hi5:i≤4:=by
  obtain ⟨k,hk⟩:=hl.few;have:=hk r
  split at this <;> omega
 dsimp only;generalize hX:(t.rows.getD r dR).cells.getD i dC=x at hx;have hf:=h.few hl hi (z4b r i (zV t r) x) rfl;obtain ⟨c,hc,hfree⟩:=zdt gs (z4b r i (zV t r) x) hx.1 (fun a ha=>(h.stands a ha).1.2.2.1);obtain ⟨f1,f2,f3⟩:=zhd (by omega) hfree
 have hst:∀ k:Nat,k≤84→z1o t.rows.length (z1h (z4b r i (zV t r) x) k):=by
  intro k hk;simp only [z1o,z1h,z4b];omega
 refine ⟨⟨by omega,f2,f3,hst⟩,?_,?_,?_⟩
 ·intro a ha
  rcases List.mem_append.1 ha with ha | ha
  ·exact h.stands a ha
  ·simp at ha;subst ha;exact ⟨hst _ (by omega),Int.le_refl _⟩
 ·intro q;have hrow:(z1n gs r i (zV t r) x).row=(r:Int):=rfl;rw [z8I,h.cnt q,hrow];by_cases h1:q < r
  ·rw [if_pos h1,if_pos h1,if_neg (by omega:¬ (r:Int)=q),Nat.add_zero]
  ·rw [if_neg h1,if_neg h1];by_cases h2:q=r
   ·subst h2;simp
   ·rw [if_neg h2,if_neg h2,if_neg (by omega)]
 ·intro q hq;have hrow:(z1n gs r i (zV t r) x).row=(r:Int):=rfl;rw [z8I,h.neg q hq,hrow,if_neg (by omega)]
theorem z3B.zero (t:T):z3B t [] 0 0:=⟨fun a ha=>(by cases ha),fun q=>(by simp [z39]),fun q _=>(by simp [z39])⟩
theorem z3B.rowEnd {t:T} {gs:List GC} {r:Nat} (h:z3B t gs r (t.rows.getD r dR).cells.length):z3B t gs (r+1) 0:=by
 refine ⟨fun a ha=>⟨(h.stands a ha).1,by have:=(h.stands a ha).2;omega⟩,fun q=>?_,h.neg⟩;rw [h.cnt q];by_cases h1:q < r
 ·rw [if_pos h1,if_pos (by omega)]
 ·rw [if_neg h1];by_cases h2:q=r
  ·subst h2;simp
  ·rw [if_neg h2,if_neg (by omega)]
   split <;> rfl
theorem z75 {t:T} (hl:Low t) {r:Nat} (hr:r < t.rows.length) (h:z3B t (zX t r) r 0):∀ i,i≤(t.rows.getD r dR).cells.length→z3B t (z1P (zV t r) r (t.rows.getD r dR).cells (zX t r) i) r i
 | 0,_=>h
 | i+1,hi=>(z3B.next (z75 hl hr h i (by omega)) hl hr (by omega)).2
theorem z6j {t:T} (hl:Low t):∀ r,r≤t.rows.length→z3B t (zX t r) r 0
 | 0,_=>z3B.zero t
 | r+1,hr=>(z75 hl (by omega) (z6j hl r (by omega)) _ (Nat.le_refl _)).rowEnd
theorem z7L (e:Int) (r:Nat) (cs:List C) (gs:List GC) (i:Nat):(z1P e r cs gs i).length=gs.length+i:=by
 induction i with
 | zero=>rfl
 | succ i ih=>simp only [z1P,List.length_append,ih,List.length_cons,List.length_nil];omega
theorem z76 {t:T} (hl:Low t) (r:Nat):(zX t r).length≤5 * r:=by
 induction r with
 | zero=>simp [zX]
 | succ r ih =>
  obtain ⟨k,hk⟩:=hl.few;have:=hk r;simp only [zX,z7L]
  split at this <;> omega
def zL (t:T):List GC:=zX t t.rows.length
end
section
open Go.RowKit
structure BW (w:World) where
 u:World
 h:Below w.heap.size w u
theorem z0t (w:World):Nonempty (BW w):=⟨⟨w,Below.refl _ _⟩⟩
theorem zn {P:Program} {id:Nat} {Q:Exit→Act→World→Prop} {a:Act} {w:World} {l:List Oper} (hm:P.follows .mixedOrders=true) (hB:Region.lexB .any l.toArray=true)
  (h:wpQuiet P l.toArray (fun w'=>∃ p:BW w,w'=p.u) (fun a'=>∀ w',(∃ p:BW w,w'=p.u)→Q .normal a' w') l a):(Code.region id l.toArray true).wp P Q a w :=
 wp_region_quiet (C:=fun w'=>∃ p:BW w,w'=p.u) hm hB ⟨⟨_,z1a (Below.refl _ _)⟩,rfl⟩ (by simpa using h)
theorem z33 {P:Program} {f:FuncId} {args:Array Value} {w:World} {p:BW w} {v:Value} (h:Calls P f args p.u fun e w'=>e=.returned v∧Below p.u.heap.size p.u w') :
  Calls P f args p.u fun e w''=>e=.returned v∧∃ p:BW w,w''=p.u :=
 h.mono fun _ _ ⟨he,hb⟩=>⟨he,⟨_,zh p.h hb⟩,rfl⟩
theorem z1s {P:Program} {f:FuncId} {args:Array Value} {w:World} {p:BW w} {v:Value} (h:Calls P f args p.u fun e w'=>e=.returned v∧w'=p.u) :
  Calls P f args p.u fun e w''=>e=.returned v∧∃ p:BW w,w''=p.u :=
 h.mono fun _ _ ⟨he,hb⟩=>⟨he,p,hb⟩
theorem zi {w:World} {a:Addr} {v:Value} (hb:a.block < w.heap.size) (h:w.cell? a=some v) (p:BW w):p.u.cell? a=some v:=(p.h.cell hb).trans h
end
section
open Go.RowKit Go.BigFrame
def Sm (x:GC):Prop:=(0≤x.row∧x.row≤100000)∧(0≤x.col∧x.col≤100000)∧(0≤x.rows∧x.rows≤100000)∧(0≤x.cols∧x.cols≤100000)
theorem ze3 {R C:Int} {x:GC} (h:z0U R C x=true) (hR:R≤8) (hC:C≤94):Sm x:=by
 obtain ⟨e1,e2,e3,e4,h1,h2,h3,h4⟩:=z3Y h;unfold Sm;omega
theorem z1I.take {w:World} {z:Nat} {ac:Option Addr} {cc:Nat} {gs:List GC} (h:z1I w z (.slice ac gs.length cc) gs) {k:Nat} (hk:k≤gs.length):z1I w z (.slice ac (gs.take k).length cc) (gs.take k):=by
 obtain ⟨a,cap,e,h1,h2,hx⟩:=h;simp only [Value.slice.injEq,true_and] at e;obtain ⟨rfl,rfl⟩:=e;have hl:(gs.take k).length=k:=(by rw [List.length_take];omega);refine ⟨_,_,rfl,by omega,h2,fun i hi=>?_⟩;obtain ⟨b,off,ea,hb,hz,he⟩:=hx i (by omega);have e:(gs.take k).getD i dG=gs.getD i dG:=(by simp [List.getD,show i < k by omega]);exact ⟨b,off,ea,hb,hz,by dsimp only;rw [e];exact he⟩
def gcA (x:GC):Value:=.agg #[.int .i64 x.row,.int .i64 x.col,.int .i64 x.rows,.int .i64 x.cols,.int .i64 x.ins]
theorem zdu (a b:GC) (ha:Sm a) (hb:Sm b) (w:World) :
  Calls Tryz.prog 112 #[.agg #[.int .i64 a.row,.int .i64 a.col,.int .i64 a.rows,.int .i64 a.cols,.int .i64 a.ins],.agg #[.int .i64 b.row,.int .i64 b.col,.int .i64 b.rows,.int .i64 b.cols,.int .i64 b.ins]] w fun e w'=>e=.returned (.bool (z12 a b))∧Below w.heap.size w w':=by
 obtain ⟨a0,a1,a2,a3⟩:=ha;obtain ⟨b0,b1,b2,b3⟩:=hb;by_cases h1:a.row < b.row+b.rows
 ·by_cases h2:b.row < a.row+a.rows
  ·by_cases h3:a.col < b.col+b.cols
   ·have HE:Hid (z12 a b=decide (b.col < a.col+a.cols)):=by
     show z12 a b=_;simp only [z12,h1,h2,h3,decide_true,Bool.true_and]
    go_enter Tryz.func112,Tryz.ntmps112;go_wp2;go_ret;exact ⟨zN HE.out.symm,ze (ze (Below.refl _ _) _) _⟩
   ·have HE:Hid (z12 a b=false):=by
     show z12 a b=_;simp only [z12,h3,decide_false,Bool.false_and,Bool.and_false]
    go_enter Tryz.func112,Tryz.ntmps112;go_wp2;go_ret;exact ⟨zN HE.out.symm,ze (ze (Below.refl _ _) _) _⟩
  ·have HE:Hid (z12 a b=false):=by
    show z12 a b=_;simp only [z12,h2,decide_false,Bool.false_and,Bool.and_false]
   go_enter Tryz.func112,Tryz.ntmps112;go_wp2;go_ret;exact ⟨zN HE.out.symm,ze (ze (Below.refl _ _) _) _⟩
 ·have HE:Hid (z12 a b=false):=by
   show z12 a b=_;simp only [z12,h1,decide_false,Bool.false_and]
  go_enter Tryz.func112,Tryz.ntmps112;go_wp2;go_ret;exact ⟨zN HE.out.symm,ze (ze (Below.refl _ _) _) _⟩
theorem zfG {gs:List GC} {x:GC} {k:Nat} (hk:k < gs.length) (h:z12 (gs.getD k dG) x=true):z1c gs x=false:=by
 cases h2:z1c gs x with
 | false=>rfl
 | true =>
  have e:gs.getD k dG=gs[k]:=(by simp [List.getD,hk]);have:=List.all_eq_true.1 h2 gs[k] (List.getElem_mem hk);rw [← e,h] at this
  cases this
theorem zfH {gs:List GC} {x:GC} (h:∀ j,j < gs.length→z12 (gs.getD j dG) x=false):z1c gs x=true:=by
 refine List.all_eq_true.2 (fun a ha=>?_);obtain ⟨i,hi,rfl⟩:=List.mem_iff_getElem.1 ha;have:=h i hi;have e:gs.getD i dG=gs[i]:=(by simp [List.getD,hi]);rw [e] at this;rw [this];rfl
theorem z9z (ac:Option Addr) (cc:Nat) (gs:List GC) (hgs:∀ a ∈ gs,Sm a) (x:GC) (hxs:Sm x) (w:World) {z:Nat} (h:z1I w z (.slice ac gs.length cc) gs) :
  Calls Tryz.prog 71 #[.slice ac gs.length cc,.agg #[.int .i64 x.row,.int .i64 x.col,.int .i64 x.rows,.int .i64 x.cols,.int .i64 x.ins]] w fun e w'=>e=.returned (.bool (z1c gs x))∧Below w.heap.size w w':=by
 obtain ⟨_,_,_,hlen⟩:=At.form h;unfold maxLen at hlen;have K0:=Hd (ze (Below.refl w.heap.size w) (.cells #[.int .i64 x.row,.int .i64 x.col,.int .i64 x.rows,.int .i64 x.cols,.int .i64 x.ins] 112));have H:=Hd h;have HG:=Hd hgs;have HXS:=Hd hxs;have hmx:Tryz.prog.follows .mixedOrders=true:=(by kernel_rfl);clear h hgs hxs;go_enter Tryz.func71,Tryz.ntmps71;go_wp2_with fail
 go_loopw [5] (fun i W=>∃ k:Nat,k≤gs.length∧i=.int .i64 k∧Hid (∀ j,j < k→z12 (gs.getD j dG) x=false)∧Hid (Below w.heap.size w W)∧Hid (W.heap[w.heap.size]?=some (.cells #[.int .i64 x.row,.int .i64 x.col,.int .i64 x.rows,.int .i64 x.cols,.int .i64 x.ins] 112))) (fun i _=>gs.length - (intOf i).toNat)
 case atStart=>exact ⟨0,Nat.zero_le _,rfl,fun j hj=>absurd hj (Nat.not_lt_zero _),K0.out,zj _ _⟩
 case round =>
  obtain ⟨k,hk,rfl,HA,HB,HX⟩:=hrel;have hz:w.heap.size < wr.heap.size:=(bL HX.out);by_cases hlt:k < gs.length
  ·have hlt':(k:Int) < (gs.length:Int):=(by omega);have h0':(0:Int)≤(k:Int):=(by omega);obtain ⟨q,off,cap',e',hc1,hc2,hbl,hx,hs⟩:=At.get (H.out.kept HB.out) hlt;simp only [Value.slice.injEq,true_and] at e';obtain ⟨rfl,rfl⟩:=e';have HH:Hid (z12 (gs.getD k dG) x=true→z1c gs x=false):=fun hp=>zfG hlt hp
   have HN:Hid (z12 (gs.getD k dG) x=false→∀ j,j < k+1→z12 (gs.getD j dG) x=false):=fun hp j hj=>by
    rcases Nat.lt_or_eq_of_le (Nat.lt_succ_iff.1 hj) with h1 | rfl
    ·exact HA.out j h1
    ·exact hp
   have HS:Sm (gs.getD k dG):=by
    have e:gs.getD k dG=gs[k]:=(by simp [List.getD,hlt]);rw [e];exact HG.out _ (List.getElem_mem hlt)
   have HL:=Hd (zdu (gs.getD k dG) x HS HXS.out);clear HS hs;generalize gs.getD k dG=y at hx HH HN HL;obtain ⟨x0,x1,x2,x3,x4⟩:=hx;have y0:=zi (a:=⟨q,off+k * 5,none⟩) hbl x0;have y1:=zi (a:=⟨q,off+k * 5+1,none⟩) hbl x1;have y2:=zi (a:=⟨q,off+k * 5+2,none⟩) hbl x2;have y3:=zi (a:=⟨q,off+k * 5+3,none⟩) hbl x3;have y4:=zi (a:=⟨q,off+k * 5+4,none⟩) hbl x4;have b0:=zi (a:=⟨w.heap.size,0,none⟩) (v:=.int .i64 x.row) hz (zf HX.out);have b1:=zi (a:=⟨w.heap.size,1,none⟩) (v:=.int .i64 x.col) hz (zf HX.out);have b2:=zi (a:=⟨w.heap.size,2,none⟩) (v:=.int .i64 x.rows) hz (zf HX.out);have b3:=zi (a:=⟨w.heap.size,3,none⟩) (v:=.int .i64 x.cols) hz (zf HX.out);have b4:=zi (a:=⟨w.heap.size,4,none⟩) (v:=.int .i64 x.ins) hz (zf HX.out);unfold maxLen at hc2;clear x0 x1 x2 x3 x4;go_wp2_with fail
   have hne:=z0t wr;refine zn hmx (by kernel_rfl) ?_;repeat (go_big_quiet_step (refine z33 (HL.out _)))
   refine wpQuiet_nil ?_;intro _ hw';obtain ⟨⟨W7,hW7⟩,hw''⟩:=hw';subst hw'';have HB7:=Hd (zh HB.out hW7);have HX7:=Hd ((hW7.block w.heap.size hz).trans HX.out);clear y0 y1 y2 y3 y4 b0 b1 b2 b3 b4 hW7
   cases h1:z12 y x with
   | false =>
    have HF:=Hd (HN.out h1);clear HH HN HA h1;go_wp2;go_roundw
    case rel=>exact ⟨k+1,by omega,by go_num,HF,HB7,HX7⟩
    case measure=>simp [intOf];omega
   | true =>
    have HF:=Hd (HH.out h1);clear HH HN HA h1;go_wp2;go_ret;exact ⟨zN HF.out.symm,HB7.out⟩
  ·obtain rfl:k=gs.length:=by omega
   have HF:=Hd (zfH HA.out);clear HA;go_wp2;go_ret;exact ⟨zN HF.out.symm,HB.out⟩
end
section
open Go.RowKit
theorem z0i {w:World} {base:Nat} {e:TypeId} {sz:Nat} {v:Value} {m:Nat} {xs:List Value} (h:w.ownsRow base e sz v m xs):∃ a cap,v=.slice a m cap∧m≤maxLen:=by
 rcases h.2 with ⟨rfl,rfl⟩ | ⟨g,cap,cur,rfl,_,_,h1,h2,_⟩
 ·exact ⟨none,0,rfl,by unfold maxLen;omega⟩
 ·exact ⟨_,cap,rfl,Nat.le_trans h1 h2⟩
theorem z4o {α:Type} (f:α→List Value) (sz:Nat) (hf:∀ x,(f x).length=sz) (l:List α) (i:Nat) (hi:i < l.length) (j:Nat) (hj:j < sz):(l.flatMap f)[i * sz+j]?=(f l[i])[j]?:=by
 induction l generalizing i with
 | nil=>simp at hi
 | cons a t ih =>
  rw [List.flatMap_cons]
  cases i with
  | zero=>rw [List.getElem?_append_left (by rw [hf];omega)];simp
  | succ i =>
   rw [List.getElem?_append_right (by rw [hf,Nat.succ_mul];omega),hf];have e:(i+1) * sz+j - sz=i * sz+j:=(by rw [Nat.succ_mul];omega);rw [e,ih i (by simpa using hi)];simp
theorem zhe {α:Type} (f:α→List Value) (sz:Nat) (hf:∀ x,(f x).length=sz) (l:List α):(l.flatMap f).length=l.length * sz:=by
 induction l with
 | nil=>simp
 | cons a t ih=>rw [List.flatMap_cons,List.length_append,hf,ih,List.length_cons,Nat.succ_mul];omega
theorem z4p {w:World} {base:Nat} {e:TypeId} {sz:Nat} {m:Nat} {xs:List Value} {g cap:Nat} (h:w.ownsRow base e sz (.slice (some ⟨g,0,none⟩) m cap) m xs) {k:Nat} {u:Value} (hk:xs[k]?=some u):w.cell? ⟨g,k,none⟩=some u:=by
 have hl:k < xs.length:=(List.getElem?_eq_some_iff.1 hk).1
 rcases h.2 with ⟨e,_⟩ | ⟨g',cap',cur,e,_,hc,_,_,_,ht⟩
 ·simp at e
 ·simp at e;obtain ⟨rfl,rfl⟩:=e;rw [zf hc,← Array.getElem?_toList];rw [← ht,List.getElem?_take_of_lt (by rw [h.1] at hl;exact hl)] at hk;exact hk
theorem z0D {w:World} {g:Nat} {arr:Array Value} {t:TypeId} (h:w.heap[g]?=some (.cells arr t)):∀ j u,arr.toList[j]?=some u→w.cell? ((⟨g,0,none⟩:Addr).add j)=some u:=fun j u hu=>by
 have e:(⟨g,0,none⟩:Addr).add j=⟨g,j,none⟩:=(by simp [Addr.add];intro h;exact h.symm);rw [e,zf h,← Array.getElem?_toList];exact hu
structure Bk (r:Nat) (w w':World):Prop where
 os:w'.os=w.os
 tape:w'.tape=w.tape
 output:w'.output=w.output
 size:w.heap.size≤w'.heap.size
 block:∀ k,k < w.heap.size→k ≠ r→w'.heap[k]?=w.heap[k]?
theorem Bk.refl (r:Nat) (w:World):Bk r w w:=⟨rfl,rfl,rfl,Nat.le_refl _,fun _ _ _=>rfl⟩
theorem Bk.trans {r:Nat} {a b c:World} (h:Bk r a b) (k:Bk r b c):Bk r a c :=
 ⟨k.os.trans h.os,k.tape.trans h.tape,k.output.trans h.output,Nat.le_trans h.size k.size,fun i hi hr=>(k.block i (Nat.lt_of_lt_of_le hi h.size) hr).trans (h.block i hi hr)⟩
theorem Bk.alloc {r:Nat} {a w:World} (h:Bk r a w) (o:Obj):Bk r a (w.alloc o) :=
 h.trans ⟨rfl,rfl,rfl,by simp,fun k hk _=>Below.heap_alloc _ _ _ hk⟩
theorem Bk.drewN {r:Nat} {a w:World} (h:Bk r a w) (n:Nat):Bk r a (w.drewN n):=⟨h.os,h.tape,h.output,h.size,h.block⟩
theorem Bk.drew {r:Nat} {a w:World} (h:Bk r a w):Bk r a w.drew:=⟨h.os,h.tape,h.output,h.size,h.block⟩
theorem Bk.set {r:Nat} {a w:World} (h:Bk r a w) {p:Addr} (hp:p.block=r∨a.heap.size≤p.block) (u:Value):Bk r a (w.setCell p u) :=
 ⟨h.os,h.tape,h.output,by simpa [World.setCell] using h.size,fun k hk hr=>(Below.heap_setCell _ _ _ _ (by omega)).trans (h.block k hk hr)⟩
theorem Bk.below {r:Nat} {w w':World} (h:Bk r w w') {n:Nat} (hn:n≤w.heap.size) (hr:n≤r):Below n w w':=⟨h.os,h.tape,h.output,h.size,fun k hk=>h.block k (by omega) (by omega)⟩
theorem Bk.of_below {r:Nat} {w w':World} (h:Below w.heap.size w w'):Bk r w w':=⟨h.os,h.tape,h.output,h.size,fun k hk _=>h.block k hk⟩
theorem Bk.cell {r:Nat} {w w':World} (h:Bk r w w') {p:Addr} (hp:p.block < w.heap.size) (hr:p.block ≠ r):w'.cell? p=w.cell? p:=World.cell?_of_block (w:=w) (h.block p.block hp hr)
theorem Bk.frozen {r:Nat} {w w':World} (h:Bk r w w') {p:Addr} (hp:p.block < w.heap.size) (hr:p.block ≠ r):w'.frozen? p=w.frozen? p:=World.frozen?_of_block (w:=w) (h.block p.block hp hr)
theorem Bk.cells {r:Nat} {w w':World} (h:Bk r w w'):(∀ b o,b < w.heap.size→b ≠ r→w'.cell? ⟨b,o,none⟩=w.cell? ⟨b,o,none⟩)∧(∀ b o,b < w.heap.size→b ≠ r→w'.frozen? ⟨b,o,none⟩=w.frozen? ⟨b,o,none⟩) :=
 ⟨fun b o h1 h2=>h.cell (p:=⟨b,o,none⟩) h1 h2,fun b o h1 h2=>h.frozen (p:=⟨b,o,none⟩) h1 h2⟩
def z2p (x:C):List Value:=[.string x.s,.int .i64 x.c,.int .i64 x.r,.int .i64 x.a1,.int .i64 x.b1,.int .i64 x.a2,.int .i64 x.b2,.int .i64 x.a3,.int .i64 x.b3,.int .i64 x.a4,.int .i64 x.b4]
def z5p (p:Int × Int):List Value:=[.int .i64 p.1,.int .i64 p.2]
def z1L (p:Value × R):List Value:=[p.1,.bool p.2.whole]
def z2R (w:World) (base:Nat) (u:Value) (cs:List C):Prop:=w.ownsRow base 35 11 u cs.length (cs.flatMap z2p)
def z0r (w:World) (base:Nat) (v:Value) (ps:List (Int × Int)):Prop:=w.ownsRow base 67 2 v ps.length (ps.flatMap z5p)
structure z13 (w:World) (base:Nat) (v:Value) (ur:List (Value × R)):Prop where
 own:w.ownsRow base 31 2 v ur.length (ur.flatMap z1L)
 cells:∀ p ∈ ur,z2R w base p.1 p.2.cells
 apart:ur.Pairwise fun p q=>p.1.ownBlock=none∨p.1.ownBlock ≠ q.1.ownBlock
structure Off (n:Nat) (b1 b2:Option Nat) (w w':World):Prop where
 size:w.heap.size≤w'.heap.size
 block:∀ k,n≤k→k < w.heap.size→some k ≠ b1→some k ≠ b2→w'.heap[k]?=w.heap[k]?
theorem Off.bk {n r:Nat} {b1 b2:Option Nat} {w w':World} (h:Bk r w w') (hr:r < n):Off n b1 b2 w w':=⟨h.size,fun k hk hl _ _=>h.block k hl (by omega)⟩
theorem Off.grown {n:Nat} {b1 b2:Option Nat} {w w':World} (h:w.grownBy w' b2):Off n b1 b2 w w':=⟨h.size,fun k _ hl _ h2=>h.block k hl h2⟩
theorem Off.set {n g:Nat} {b2:Option Nat} (w:World) (p:Addr) (hp:p.block=g) (v:Value):Off n (some g) b2 w (w.setCell p v):=⟨by simp [World.setCell],fun k _ _ h1 _=>Below.heap_setCell _ _ _ _ (fun e=>h1 (by rw [e,hp]))⟩
theorem z1R {w w':World} {base n:Nat} {e:TypeId} {sz:Nat} {v:Value} {m:Nat} {xs:List Value} {b1 b2:Option Nat} (h:w.ownsRow base e sz v m xs) (k:Off n b1 b2 w w') (hn:n≤base) (h1:v.ownBlock=none∨v.ownBlock ≠ b1) (h2:v.ownBlock=none∨v.ownBlock ≠ b2):w'.ownsRow base e sz v m xs :=
 ⟨h.1,h.2.elim Or.inl (fun ⟨g,cap,cur,hv,hg,hc,q⟩=>Or.inr ⟨g,cap,cur,hv,hg,(k.block g (by omega) (bL hc)
  (fun e=>by subst hv;rcases h1 with h1 | h1 <;> simp [Value.ownBlock] at h1;exact h1 e)
  (fun e=>by subst hv;rcases h2 with h2 | h2 <;> simp [Value.ownBlock] at h2;exact h2 e)).trans hc,q⟩)⟩
theorem z66 {w:World} {base base':Nat} {e e':TypeId} {sz sz':Nat} {v v':Value} {m m':Nat} {xs xs':List Value} (h:w.ownsRow base e sz v m xs) (h':w.ownsRow base' e' sz' v' m' xs') (he:e ≠ e'):v.ownBlock=none∨v.ownBlock ≠ v'.ownBlock:=by
 rcases h.2 with ⟨rfl,_⟩ | ⟨g,cap,cur,rfl,_,hc,_⟩
 ·exact .inl rfl
 ·refine .inr (fun e1=>?_)
  rcases h'.2 with ⟨rfl,_⟩ | ⟨g',cap',cur',rfl,_,hc',_⟩
  ·simp [Value.ownBlock] at e1
  ·simp [Value.ownBlock] at e1;subst e1;rw [hc] at hc';simp at hc';exact he hc'.2
theorem zo {w:World} {base:Nat} {e e':TypeId} {sz:Nat} {v:Value} {m:Nat} {xs:List Value} {g:Nat} {cur:Array Value} (h:w.ownsRow base e sz v m xs) (h':w.heap[g]?=some (.cells cur e')) (he:e ≠ e'):v.ownBlock=none∨v.ownBlock ≠ some g:=by
 rcases h.2 with ⟨rfl,_⟩ | ⟨g',cap,cur',rfl,_,hc,_⟩
 ·exact .inl rfl
 ·refine .inr (fun e1=>?_);simp [Value.ownBlock] at e1;subst e1;rw [hc] at h';simp at h';exact he h'.2
theorem z27 {w:World} {base:Nat} {e:TypeId} {sz:Nat} {v:Value} {m:Nat} {xs:List Value} (h:w.ownsRow base e sz v m xs) {b:Nat} (hb:v.ownBlock=some b):base≤b∧b < w.heap.size:=by
 rcases h.2 with ⟨rfl,_⟩ | ⟨g,cap,cur,rfl,hg,hc,_⟩
 ·simp [Value.ownBlock] at hb
 ·simp [Value.ownBlock] at hb;subst hb;exact ⟨hg,(bL hc)⟩
theorem z55 {w:World} {base base':Nat} {e:TypeId} {sz:Nat} {v:Value} {m:Nat} {xs:List Value} (h:w.ownsRow base e sz v m xs) (hb:base'≤base):w.ownsRow base' e sz v m xs :=
 ⟨h.1,h.2.elim Or.inl (fun ⟨g,cap,cur,hv,hg,q⟩=>Or.inr ⟨g,cap,cur,hv,by omega,q⟩)⟩
theorem z13.off {w w':World} {base n:Nat} {v:Value} {ur:List (Value × R)} {b1 b2:Option Nat} (h:z13 w base v ur) (k:Off n b1 b2 w w') (hn:n≤base) (h1:v.ownBlock=none∨v.ownBlock ≠ b1) (h2:v.ownBlock=none∨v.ownBlock ≠ b2)
  (hc:∀ p ∈ ur,(p.1.ownBlock=none∨p.1.ownBlock ≠ b1)∧(p.1.ownBlock=none∨p.1.ownBlock ≠ b2)):z13 w' base v ur :=
 ⟨z1R h.own k hn h1 h2,fun p hp=>z1R (h.cells p hp) k hn (hc p hp).1 (hc p hp).2,h.apart⟩
def zkh (v:Value) (b1 b2:Option Nat):Prop:=(v.ownBlock=none∨v.ownBlock ≠ b1)∧(v.ownBlock=none∨v.ownBlock ≠ b2)
theorem z3n {α:Type} {l:List α} {i:Nat} (d:α) (h:i < l.length):l.getD i d=l[i]:=by simp [List.getD,h]
theorem z2R.at {w:World} {base:Nat} {u:Value} {cs:List C} (h:z2R w base u cs) (hs:∀ x ∈ cs,x.s.size≤61):z2T w base u cs:=by
 rcases h.2 with ⟨rfl,hn⟩ | ⟨g,cap,cur,rfl,hg,hc,h1,h2,_⟩
 ·exact ⟨none,0,by rw [hn],by omega,by unfold maxLen;omega,fun i hi=>by omega⟩
 ·refine ⟨_,cap,rfl,h1,h2,fun i hi=>⟨g,0,rfl,(bL hc),hg,?_,?_⟩⟩
  ·have hx:∀ j,j < 11→w.cell? ⟨g,i * 11+j,none⟩=(z2p cs[i])[j]?:=fun j hj=>by
    have e:=z4o z2p 11 (fun _=>rfl) cs i hi j hj;rw [z4p h (u:=(z2p cs[i])[j]'(by show j < 11;exact hj)) (by rw [e];simp)];simp
   rw [z3n dC hi,Nat.zero_add];exact ⟨hx 0 (by omega),hx 1 (by omega),hx 2 (by omega),hx 3 (by omega),hx 4 (by omega),hx 5 (by omega),hx 6 (by omega),hx 7 (by omega),hx 8 (by omega),hx 9 (by omega),hx 10 (by omega)⟩
  ·rw [z3n dC hi];have:=hs _ (List.getElem_mem hi);unfold maxLen;omega
theorem z0r.at {w:World} {base:Nat} {u:Value} {ps:List (Int × Int)} (h:z0r w base u ps):z07 w base u ps:=by
 rcases h.2 with ⟨rfl,hn⟩ | ⟨g,cap,cur,rfl,hg,hc,h1,h2,_⟩
 ·exact ⟨none,0,by rw [hn],by omega,by unfold maxLen;omega,fun i hi=>by omega⟩
 ·refine ⟨_,cap,rfl,h1,h2,fun i hi=>⟨g,0,rfl,(bL hc),hg,?_⟩⟩
  have hx:∀ j,j < 2→w.cell? ⟨g,i * 2+j,none⟩=(z5p ps[i])[j]?:=fun j hj=>by
   have e:=z4o z5p 2 (fun _=>rfl) ps i hi j hj;rw [z4p h (u:=(z5p ps[i])[j]'(by show j < 2;exact hj)) (by rw [e];simp)];simp
  dsimp only;rw [z3n (0,0) hi,Nat.zero_add];exact ⟨hx 0 (by omega),hx 1 (by omega)⟩
theorem z13.at {w:World} {base:Nat} {v:Value} {ur:List (Value × R)} (h:z13 w base v ur) (hs:∀ p ∈ ur,∀ x ∈ p.2.cells,x.s.size≤61):z01 w base v (ur.map (·.2)):=by
 have hl:(ur.map (·.2)).length=ur.length:=(by simp)
 rcases h.own.2 with ⟨rfl,hn⟩ | ⟨g,cap,cur,rfl,hg,hc,h1,h2,_⟩
 ·exact ⟨none,0,by rw [hl,hn],by rw [hl];omega,by unfold maxLen;omega,fun i hi=>by rw [hl] at hi;omega⟩
 ·refine ⟨_,cap,by rw [hl],by rw [hl];exact h1,h2,fun i hi=>⟨g,0,rfl,(bL hc),hg,?_⟩⟩;rw [hl] at hi
  have hx:∀ j,j < 2→w.cell? ⟨g,i * 2+j,none⟩=(z1L ur[i])[j]?:=fun j hj=>by
   have e:=z4o z1L 2 (fun _=>rfl) ur i hi j hj;rw [z4p h.own (u:=(z1L ur[i])[j]'(by show j < 2;exact hj)) (by rw [e];simp)];simp
  have hm:=List.getElem_mem hi;dsimp only;rw [z3n dR (by rw [hl];exact hi),Nat.zero_add,List.getElem_map];exact ⟨ur[i].1,hx 0 (by omega),hx 1 (by omega),(h.cells _ hm).at (hs _ hm)⟩
theorem z13.base {w:World} {base base':Nat} {v:Value} {ur:List (Value × R)} (h:z13 w base v ur) (hb:base'≤base):z13 w base' v ur:=⟨z55 h.own hb,fun p hp=>z55 (h.cells p hp) hb,h.apart⟩
end
end Go.Proofs.YtggmjiddadjilamGreat
