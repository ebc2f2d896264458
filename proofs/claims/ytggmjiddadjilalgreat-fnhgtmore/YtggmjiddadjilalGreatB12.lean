/-
  PROVED HERE: small laws on blocks of cells in memory, for the other texts of this claim. Also: 18 more texts of the same proof.
-/
import Derived.Test.YtggmjiddadjilalGreatB6
import Derived.Test.YtggmjiddadjilalGreatB2
import Derived.Lib.SmallJoins
set_option maxRecDepth 1000000
set_option maxHeartbeats 40000000
namespace Go.Proofs.YtggmjiddadjilalGreat
open Value (int)
open IntKind (i64)
section
open Go.RowKit
theorem z2c (w:World) (p:Addr) (v:Value):(w.setCell p v).heap.size=w.heap.size:=by simp [World.setCell]
theorem zk (w:World) (q:Obj):(w.alloc q).heap[w.heap.size]?=some q:=by show (w.heap.push q)[w.heap.size]?=_;simp
theorem zf {w:World} {g p:Nat} {arr:Array Value} {t:TypeId} (h:w.heap[g]?=some (.cells arr t)):w.cell? ⟨g,p,none⟩=arr[p]?:=Joins.cell_of_block h p
theorem z4b {w:World} {g p:Nat} {arr:Array Value} {t:TypeId} (h:w.heap[g]?=some (.cells arr t)) (hp:p < arr.size):∃ v,w.cell? ⟨g,p,none⟩=some v:=⟨_,(zf h).trans (Array.getElem?_eq_getElem hp)⟩
theorem zr {w:World} {g p:Nat} {arr:Array Value} {t:TypeId} (h:w.heap[g]?=some (.cells arr t)):w.frozen? ⟨g,p,none⟩=false:=Joins.unfrozen_of_block h p
theorem zM {w:World} {g p:Nat} {arr:Array Value} {t:TypeId} (h:w.heap[g]?=some (.cells arr t)) (v:Value):(w.setCell ⟨g,p,none⟩ v).heap[g]?=some (.cells (arr.setIfInBounds p v) t):=Joins.block_setCell h v
theorem z5n {arr:Array Value} {n k:Nat} (hs:arr.size=n * 2) (hk:k < n) (x y:Value) :
  (∀ p,p < k * 2->((arr.setIfInBounds (k * 2) x).setIfInBounds (k * 2+1) y)[p]?=arr[p]?)/\((arr.setIfInBounds (k * 2) x).setIfInBounds (k * 2+1) y)[k * 2]?=some x/\((arr.setIfInBounds (k * 2) x).setIfInBounds (k * 2+1) y)[k * 2+1]?=some y:=by
 have eq:∀ (A:Array Value) (i:Nat) (v:Value),i < A.size->(A.setIfInBounds i v)[i]?=some v:=fun A i v hi=>by simp [hi]
 refine ⟨fun p hp=>?_,?_,?_⟩
 ·rw [Array.getElem?_setIfInBounds_ne (by omega),Array.getElem?_setIfInBounds_ne (by omega)]
 ·rw [Array.getElem?_setIfInBounds_ne (by omega)];exact eq _ _ _ (by omega)
 ·exact eq _ _ _ (by rw [Array.size_setIfInBounds];omega)
def zgp (n:Int) (m:Nat):Int:=if (m:Int)<=n then n - m else -1
theorem zfi {a b:Int} (h:a=b):Ending.returned (int i64 a)=.returned (int i64 b):=by rw [h]
def inB (n lo hi:Int):Bool:=decide (lo<=n/\n<=hi)
theorem zU {a b:Bool} (h:a=b):Ending.returned (.bool a)=.returned (.bool b):=by rw [h]
theorem z2k {n lo hi:Int} (h1:lo<=n) (h2:n<=hi):inB n lo hi=true:=by simp [inB,h1,h2]
theorem z25 {n lo hi:Int} (h:¬ (lo<=n/\n<=hi)):inB n lo hi=false:=by simp only [inB,h,decide_false]
theorem zA (n lo hi:Int) (w:World) :
  Calls Tryz.prog 22 #[int i64 n,int i64 lo,int i64 hi] w fun e w'=>e=.returned (.bool (inB n lo hi))/\w'=w:=by
 by_cases h1:lo<=n
 ·by_cases h2:n<=hi
  ·have HB:Hid (inB n lo hi=true):=z2k h1 h2;go_enter Tryz.func22,Tryz.ntmps22;go_wp2;go_ret;exact ⟨zU HB.out.symm,rfl⟩
  ·have HB:Hid (inB n lo hi=false):=z25 (by omega);go_enter Tryz.func22,Tryz.ntmps22;go_wp2;go_ret;exact ⟨zU HB.out.symm,rfl⟩
 ·have HB:Hid (inB n lo hi=false):=z25 (by omega);go_enter Tryz.func22,Tryz.ntmps22;go_wp2;go_ret;exact ⟨zU HB.out.symm,rfl⟩
theorem z0w (n lo hi:Int) (w:World) :
  Calls Tryz.prog 19 #[int i64 n,int i64 lo,int i64 hi] w fun e w'=>e=.returned (.bool (inB n lo hi))/\w'=w:=by
 by_cases h1:lo<=n
 ·by_cases h2:n<=hi
  ·have HB:Hid (inB n lo hi=true):=z2k h1 h2;go_enter Tryz.func19,Tryz.ntmps19;go_wp2;go_ret;exact ⟨zU HB.out.symm,rfl⟩
  ·have HB:Hid (inB n lo hi=false):=z25 (by omega);go_enter Tryz.func19,Tryz.ntmps19;go_wp2;go_ret;exact ⟨zU HB.out.symm,rfl⟩
 ·have HB:Hid (inB n lo hi=false):=z25 (by omega);go_enter Tryz.func19,Tryz.ntmps19;go_wp2;go_ret;exact ⟨zU HB.out.symm,rfl⟩
structure Bk (r:Nat) (w w':World):Prop where
 os:w'.os=w.os
 tape:w'.tape=w.tape
 output:w'.output=w.output
 size:w.heap.size<=w'.heap.size
 block:∀ k,k < w.heap.size->k ≠ r->w'.heap[k]?=w.heap[k]?
theorem Bk.refl (r:Nat) (w:World):Bk r w w:=⟨rfl,rfl,rfl,Nat.le_refl _,fun _ _ _=>rfl⟩
theorem Bk.trans {r:Nat} {a b c:World} (h:Bk r a b) (k:Bk r b c):Bk r a c :=
 ⟨k.os.trans h.os,k.tape.trans h.tape,k.output.trans h.output,Nat.le_trans h.size k.size,fun i hi hr=>(k.block i (Nat.lt_of_lt_of_le hi h.size) hr).trans (h.block i hi hr)⟩
theorem Bk.alloc {r:Nat} {a w:World} (h:Bk r a w) (o:Obj):Bk r a (w.alloc o) :=
 h.trans ⟨rfl,rfl,rfl,by simp,fun k hk _=>Below.heap_alloc _ _ _ hk⟩
theorem Bk.drewN {r:Nat} {a w:World} (h:Bk r a w) (n:Nat):Bk r a (w.drewN n):=⟨h.os,h.tape,h.output,h.size,h.block⟩
theorem Bk.drew {r:Nat} {a w:World} (h:Bk r a w):Bk r a w.drew:=⟨h.os,h.tape,h.output,h.size,h.block⟩
theorem Bk.set {r:Nat} {a w:World} (h:Bk r a w) {p:Addr} (hp:p.block=r\/a.heap.size<=p.block) (u:Value):Bk r a (w.setCell p u) :=
 ⟨h.os,h.tape,h.output,by simpa [World.setCell] using h.size,fun k hk hr=>(Below.heap_setCell _ _ _ _ (by omega)).trans (h.block k hk hr)⟩
theorem Bk.below {r:Nat} {w w':World} (h:Bk r w w') {n:Nat} (hn:n<=w.heap.size) (hr:n<=r):Below n w w':=⟨h.os,h.tape,h.output,h.size,fun k hk=>h.block k (by omega) (by omega)⟩
theorem Bk.of_below {r:Nat} {w w':World} (h:Below w.heap.size w w'):Bk r w w':=⟨h.os,h.tape,h.output,h.size,fun k hk _=>h.block k hk⟩
theorem Bk.cell {r:Nat} {w w':World} (h:Bk r w w') {p:Addr} (hp:p.block < w.heap.size) (hr:p.block ≠ r):w'.cell? p=w.cell? p:=World.cell?_of_block (w:=w) (h.block p.block hp hr)
theorem Bk.frozen {r:Nat} {w w':World} (h:Bk r w w') {p:Addr} (hp:p.block < w.heap.size) (hr:p.block ≠ r):w'.frozen? p=w.frozen? p:=World.frozen?_of_block (w:=w) (h.block p.block hp hr)
theorem Bk.cells {r:Nat} {w w':World} (h:Bk r w w'):(∀ b o,b < w.heap.size->b ≠ r->w'.cell? ⟨b,o,none⟩=w.cell? ⟨b,o,none⟩)/\(∀ b o,b < w.heap.size->b ≠ r->w'.frozen? ⟨b,o,none⟩=w.frozen? ⟨b,o,none⟩) :=
 ⟨fun b o h1 h2=>h.cell (p:=⟨b,o,none⟩) h1 h2,fun b o h1 h2=>h.frozen (p:=⟨b,o,none⟩) h1 h2⟩
def Rd (w:World) (r B:Nat):Prop :=
 ∃ (a:Option Addr) (len cap p:Nat),p<=B/\len<=2000/\w.heap[r]?=some (.cells #[.slice a len cap,.int .i64 p] 80) /\
  ∀ i,i < len->∃ (b off:Nat) (z:Int),a=some ⟨b,off,none⟩/\b < r/\w.cell? ⟨b,off+i,none⟩=some (.int .u8 z)/\0<=z/\z<=255
theorem Rd.lt {w:World} {r B:Nat} (h:Rd w r B):r < w.heap.size:=by
 obtain ⟨a,len,cap,p,_,_,hb,_⟩:=h;exact (bL hb)
theorem Rd.mono {w:World} {r B B':Nat} (h:Rd w r B) (hB:B<=B'):Rd w r B':=by
 obtain ⟨a,len,cap,p,h1,h⟩:=h;exact ⟨a,len,cap,p,by omega,h⟩
theorem Rd.kept {w w':World} {r B:Nat} (h:Rd w r B) (hb:Below w.heap.size w w'):Rd w' r B:=by
 have hlt:=h.lt;obtain ⟨a,len,cap,p,h1,h2,hk,hc⟩:=h;refine ⟨a,len,cap,p,h1,h2,(hb.block r hlt).trans hk,fun i hi=>?_⟩;obtain ⟨b,off,z,e,l,c,z0,z1⟩:=hc i hi;exact ⟨b,off,z,e,l,(hb.cell (p:=⟨b,off+i,none⟩) (Nat.lt_trans l hlt)).trans c,z0,z1⟩
theorem Rd.keep {w w':World} {r B:Nat} (h:Rd w r B) (hk:∀ k,k<=r->w'.heap[k]?=w.heap[k]?):Rd w' r B:=by
 obtain ⟨a,len,cap,p,h1,h2,hb,hc⟩:=h;refine ⟨a,len,cap,p,h1,h2,(hk r (Nat.le_refl _)).trans hb,fun i hi=>?_⟩;obtain ⟨b,off,z,e,l,c,z0,z1⟩:=hc i hi;exact ⟨b,off,z,e,l,(World.cell?_of_block (w:=w) (a:=⟨b,off+i,none⟩) (hk b (Nat.le_of_lt l))).trans c,z0,z1⟩
theorem Rd.alloc {w:World} {r B:Nat} (h:Rd w r B) (o:Obj):Rd (w.alloc o) r B:=h.kept (ze (Below.refl _ _) _)
theorem Rd.set {w:World} {r B:Nat} (h:Rd w r B) {p:Addr} (hp:r < p.block) (u:Value):Rd (w.setCell p u) r B:=h.keep (fun _ hk=>Below.heap_setCell _ _ _ _ (by omega))
theorem Rd.drew {w:World} {r B:Nat} (h:Rd w r B):Rd w.drew r B:=h.kept (z1P (Below.refl _ _))
def InR (n k:Int):Prop:=1<=n->0<=k/\k < n
theorem z7Y (a b:Int) (h1:0<=a) (h2:a < 4611686018427387904) (h3:0<=b) (h4:b < 4611686018427387904):0<=bits .xor .i64 a b:=by
 obtain ⟨A,rfl⟩:=Int.eq_ofNat_of_zero_le h1;obtain ⟨B,rfl⟩:=Int.eq_ofNat_of_zero_le h3;have hx:A ^^^ B < 2 ^ 62:=Nat.xor_lt_two_pow (by omega) (by omega);have e:bits .xor .i64 (A:Int) (B:Int)=IntKind.i64.wrap ((BitVec.ofInt 64 (A:Int) ^^^ BitVec.ofInt 64 (B:Int)).toNat:Int):=rfl;rw [e,BitVec.toNat_xor,ofInt_u64 A (by omega),ofInt_u64 B (by omega)];simp [IntKind.wrap,IntKind.bits,IntKind.signed];omega
theorem z4U {x:Int} (h1:0<=x) (h2:x < 4611686018427387904):wrap64 x=x:=by unfold wrap64;omega
theorem zce (n z y:Int) (p len:Nat) (hn:1<=n) (hp:p<=1000000) (z0:0<=z) (z1:z<=255) (y0:0<=y) (y1:y<=255) :
  InR n ((bits BinOp.xor IntKind.i64 (wrap64 (z * 131+y * 1117+(p:Int) * 29+wrap64 (wrap64 ((p:Int) / (len:Int)) * 53)))
   (wrap64 ((wrap64 (z * 131+y * 1117+(p:Int) * 29+wrap64 (wrap64 ((p:Int) / (len:Int)) * 53))).tdiv 64))).tmod n):=by
 have q0:0<=(p:Int) / (len:Int):=Int.ediv_nonneg (by omega) (by omega);have q1:(p:Int) / (len:Int)<=p:=Int.ediv_le_self _ (by omega);generalize (p:Int) / (len:Int)=q at q0 q1 |-;rw [z4U q0 (by omega),z4U (x:=q * 53) (by omega) (by omega),z4U (x:=z * 131+y * 1117+(p:Int) * 29+q * 53) (by omega) (by omega)];have X0:0<=z * 131+y * 1117+(p:Int) * 29+q * 53:=(by omega);have X1:z * 131+y * 1117+(p:Int) * 29+q * 53 < 4611686018427387904:=(by omega);generalize z * 131+y * 1117+(p:Int) * 29+q * 53=X at X0 X1 |-;rw [Int.tdiv_eq_ediv_of_nonneg X0,z4U (x:=X / 64) (by omega) (by omega)];have hx:=z7Y X (X / 64) X0 X1 (by omega) (by omega);generalize bits BinOp.xor IntKind.i64 X (X / 64)=Y at hx |-;intro _;rw [Int.tmod_eq_emod_of_nonneg hx];exact ⟨Int.emod_nonneg _ (by omega),Int.emod_lt_of_pos _ (by omega)⟩
theorem zeC {w:World} {r B:Nat} {a:Option Addr} {len cap p:Nat} (hp:p<=B) (hl:len<=2000) (hk:w.heap[r]?=some (.cells #[.slice a len cap,.int .i64 p] 80))
  (hc:∀ i,i < len->∃ (b off:Nat) (z:Int),a=some ⟨b,off,none⟩/\b < r/\w.cell? ⟨b,off+i,none⟩=some (.int .u8 z)/\0<=z/\z<=255) :
  Rd (w.setCell ⟨r,1,none⟩ (.int .i64 ((p:Int)+1))) r (B+1)/\Bk r w (w.setCell ⟨r,1,none⟩ (.int .i64 ((p:Int)+1))):=by
 have bk:Bk r w (w.setCell ⟨r,1,none⟩ (.int .i64 ((p:Int)+1))):=(Bk.refl r w).set (Or.inl rfl) _;refine ⟨⟨a,len,cap,p+1,by omega,hl,?_,fun i hi=>?_⟩,bk⟩
 ·rw [Joins.block_setCell hk];simp
 ·obtain ⟨b,off,z,e,l,c,z0,z1⟩:=hc i hi;exact ⟨b,off,z,e,l,(bk.cell (p:=⟨b,off+i,none⟩) (Nat.lt_trans l (bL hk)) (Nat.ne_of_lt l)).trans c,z0,z1⟩
theorem Rd.draws {w:World} {r B:Nat} (h:Rd w r B) (n:Nat):Rd (w.drewN n) r B:=h.kept (z5b (Below.refl _ _) n)
theorem zv (r B:Nat) (n:Int) (w:World) (h:Rd w r B) (hB:B<=1000000) :
  Calls Tryz.prog 17 #[.pointer (some ⟨r,0,none⟩),.int .i64 n] w fun e w'=>∃ k:Int,e=.returned (.int .i64 k)/\InR n k/\Rd w' r (B+1)/\Bk r w w':=by
 have hlt:=h.lt;obtain ⟨a,len,cap,p,hp,hl,hk,hc⟩:=h;have c0:w.cell? ⟨r,0,none⟩=some (.slice a len cap):=(by simp [World.cell?,hk]);have c1:w.cell? ⟨r,1,none⟩=some (.int .i64 p):=(by simp [World.cell?,hk]);have f1:w.frozen? ⟨r,1,none⟩=false:=(by simp [World.frozen?,hk]);obtain ⟨N1,N2⟩:=zeC hp hl hk hc;have HN1:Hid (Rd (w.setCell ⟨r,1,none⟩ (.int .i64 ((p:Int)+1))) r (B+1)):=N1;have HN2:Hid (Bk r w (w.setCell ⟨r,1,none⟩ (.int .i64 ((p:Int)+1)))):=N2;clear N1 N2 hk;by_cases hn:n < 1
 ·as_aux_lemma =>
   clear hc;go_enter Tryz.func17,Tryz.ntmps17;go_wp2;go_ret;exact ⟨0,rfl,fun h=>absurd h (by omega),HN1.out,HN2.out⟩
 by_cases hz:len=0
 ·as_aux_lemma =>
   have hz':((len:Int) == 0)=true:=beq_iff_eq.2 (by omega);clear hc hz;go_enter Tryz.func17,Tryz.ntmps17;go_wp2;go_ret;exact ⟨0,rfl,fun h=>by omega,HN1.out,HN2.out⟩
 have hz':((len:Int) == 0)=false:=beq_eq_false_iff_ne.2 (by omega);have hn1:1<=n:=(by omega);by_cases hpl:p < len
 ·as_aux_lemma =>
   obtain ⟨b,off,z,rfl,hbr0,hcz,hz0,hz1⟩:=hc p hpl;have hbr:b ≠ r:=(by omega);have hbl:b < w.heap.size:=(by omega);have c2:∀ v,(w.setCell ⟨r,1,none⟩ v).cell? ⟨b,off+p,none⟩=some (.int .u8 z):=fun v=>((Bk.refl r w).set (p:=⟨r,1,none⟩) (Or.inl rfl) v).cell (p:=⟨b,off+p,none⟩) hbl hbr |>.trans hcz;clear hc hcz hz hbl;go_enter Tryz.func17,Tryz.ntmps17;go_wp2;go_ret;exact ⟨_,rfl,fun _=>⟨Int.emod_nonneg _ (by omega),Int.emod_lt_of_pos _ (by omega)⟩,HN1.out,HN2.out⟩
 ·as_aux_lemma =>
   have hm1:p % len < len:=Nat.mod_lt _ (by omega);have hm2:(p * 7+3) % len < len:=Nat.mod_lt _ (by omega);obtain ⟨b,off,z,rfl,hbr0,hcz,hz0,hz1⟩:=hc _ hm1;have hbr:b ≠ r:=(by omega);have hbl:b < w.heap.size:=(by omega);obtain ⟨b',off',y,e',hbr',hcy,hy0,hy1⟩:=hc _ hm2;simp only [Option.some.injEq,Addr.mk.injEq] at e';obtain ⟨rfl,rfl,_⟩:=e';have c2:∀ v,(w.setCell ⟨r,1,none⟩ v).cell? ⟨b,off+p % len,none⟩=some (.int .u8 z):=fun v=>((Bk.refl r w).set (p:=⟨r,1,none⟩) (Or.inl rfl) v).cell (p:=⟨b,off+p % len,none⟩) hbl hbr |>.trans hcz;have c3:∀ v,(w.setCell ⟨r,1,none⟩ v).cell? ⟨b,off+(p * 7+3) % len,none⟩=some (.int .u8 y):=fun v=>((Bk.refl r w).set (p:=⟨r,1,none⟩) (Or.inl rfl) v).cell (p:=⟨b,off+(p * 7+3) % len,none⟩) hbl hbr |>.trans hcy;have i1:0<=((p:Int) * 7+3) % (len:Int):=Int.emod_nonneg _ (by omega);have i2:((p:Int) * 7+3) % (len:Int) < (len:Int):=Int.emod_lt_of_pos _ (by omega)
   have i3:(((p:Int) * 7+3) % (len:Int)).toNat=(p * 7+3) % len:=by
    have:((p:Int) * 7+3) % (len:Int)=(((p * 7+3) % len:Nat):Int):=(by simp);rw [this,Int.toNat_natCast]
   clear hc hcz hcy hz hbl hbr';go_enter Tryz.func17,Tryz.ntmps17;go_wp2;refine wp_region_quiet_lit (by kernel_rfl) (by kernel_rfl) ?_;repeat (go_big_quiet_step (fail))
   refine wpQuiet_nil ?_;intro _ hw';obtain ⟨nq,hw''⟩:=hw';subst hw'';go_wp2;go_ret;refine ⟨_,rfl,?_,HN1.out.draws _,HN2.out.drewN _⟩;exact zce n z y p len hn1 (by omega) hz0 hz1 hy0 hy1
def z2D (w:World) (a:Option Addr) (len cap:Nat):Prop :=
 len<=cap/\cap<=maxLen/\∀ i,i < len->∃ (b off:Nat) (z:Int),a=some ⟨b,off,none⟩/\b < w.heap.size/\w.cell? ⟨b,off+i,none⟩=some (.int .u8 z)/\0<=z/\z<=255
theorem zbq (w:World):z2D w none 0 0:=⟨Nat.le_refl _,Nat.zero_le _,fun _ hi=>absurd hi (Nat.not_lt_zero _)⟩
theorem z97 {w:World} {b o:Nat} {v:Value} (h:w.cell? ⟨b,o,none⟩=some v):b < w.heap.size:=by
 rcases Nat.lt_or_ge b w.heap.size with h1 | h1
 ·exact h1
 ·simp [World.cell?,Array.getElem?_eq_none h1] at h
theorem zdr {zs:List Int} {i:Nat} (h:i < zs.length):zs.getD i 0 ∈ zs:=by
 have e:zs.getD i 0=zs[i]:=(by simp [List.getD,h]);rw [e];exact List.getElem_mem _
theorem zcf {w:World} {x:Addr} {len cap:Nat} {zs:List Int} (hl:len<=cap) (hm:cap<=maxLen) (hz:zs.length=cap) (hcell:∀ i,i < zs.length->w.cell? (x.add i)=some (.int .u8 (zs.getD i 0)))
  (hw:∀ n ∈ zs,(Lit.int .u8 n).wf=true):z2D w (some x) len cap:=by
 refine ⟨hl,hm,fun i hi=>?_⟩;obtain ⟨b,off,rfl,hc⟩:=ints_at hcell (by omega);have hci:=hc i (by omega);have hb:=bounds_u8 (hw _ (zdr (zs:=zs) (i:=i) (by omega)));exact ⟨b,off,_,rfl,z97 hci,hci,hb.1,hb.2⟩
theorem zb0 {w:World} {a:Option Addr} {len cap:Nat} (L:Nat) (hL:L<=len) (h2:L<=2000)
  (hc:∀ i,i < len->∃ (b off:Nat) (z:Int),a=some ⟨b,off,none⟩/\b < w.heap.size/\w.cell? ⟨b,off+i,none⟩=some (.int .u8 z)/\0<=z/\z<=255) :
  Rd (w.alloc (.cells #[.slice a L cap,.int .i64 0] 80)) w.heap.size 0:=by
 refine ⟨a,L,cap,0,Nat.le_refl _,h2,?_,fun i hi=>?_⟩
 ·show (w.heap.push _)[w.heap.size]?=_;simp
 ·obtain ⟨b,off,z,e,l,c,z0,z1⟩:=hc i (by omega);refine ⟨b,off,z,e,l,?_,z0,z1⟩;exact ((ze (Below.refl w.heap.size w) _).cell (p:=⟨b,off+i,none⟩) l).trans c
theorem zds (a:Option Addr) (len cap:Nat) (w:World) (h:z2D w a len cap) :
  Calls Tryz.prog 15 #[.slice a len cap] w fun e w'=>e=.returned (.pointer (some ⟨w.heap.size,0,none⟩))/\Rd w' w.heap.size 0/\Below w.heap.size w w':=by
 obtain ⟨h1,h2,hc⟩:=h;unfold maxLen at h2;by_cases hl:(2000:Int) < (len:Int)
 ·go_enter Tryz.func15,Tryz.ntmps15;go_wp2;go_ret;exact ⟨rfl,zb0 2000 (by omega) (by omega) hc,ze (Below.refl _ _) _⟩
 ·go_enter Tryz.func15,Tryz.ntmps15;go_wp2;go_ret;exact ⟨rfl,zb0 len (by omega) (by omega) hc,ze (Below.refl _ _) _⟩
structure C where
 s:ByteArray
 c:Int
 r:Int
 a1:Int
 b1:Int
 a2:Int
 b2:Int
 a3:Int
 b3:Int
 a4:Int
 b4:Int
structure R where
 cells:List C
 whole:Bool
structure T where
 cols:List (Int × Int)
 head:Int
 foot:Int
 rows:List R
 gap:Int
def dC:C:=⟨ByteArray.empty,0,0,0,0,0,0,0,0,0,0⟩
def dR:R:=⟨[],false⟩
def z60 (w:World) (b o:Nat) (x:C):Prop :=
 w.cell? ⟨b,o,none⟩=some (.string x.s)/\w.cell? ⟨b,o+1,none⟩=some (int i64 x.c)/\w.cell? ⟨b,o+2,none⟩=some (int i64 x.r) /\
 w.cell? ⟨b,o+3,none⟩=some (int i64 x.a1)/\w.cell? ⟨b,o+4,none⟩=some (int i64 x.b1)/\w.cell? ⟨b,o+5,none⟩=some (int i64 x.a2)/\w.cell? ⟨b,o+6,none⟩=some (int i64 x.b2) /\
 w.cell? ⟨b,o+7,none⟩=some (int i64 x.a3)/\w.cell? ⟨b,o+8,none⟩=some (int i64 x.b3)/\w.cell? ⟨b,o+9,none⟩=some (int i64 x.a4)/\w.cell? ⟨b,o+10,none⟩=some (int i64 x.b4)
def At (w:World) (z:Nat) (v:Value) (n sz:Nat) (E:Nat->Nat->Nat->Prop):Prop :=
 ∃ (a:Option Addr) (cap:Nat),v=.slice a n cap/\n<=cap/\cap<=maxLen/\∀ i,i < n->∃ b off,a=some ⟨b,off,none⟩/\b < w.heap.size/\z<=b/\E i b (off+i * sz)
def z0T (w:World) (z:Nat) (v:Value) (cs:List C):Prop:=At w z v cs.length 11 (fun i b o=>z60 w b o (cs.getD i dC)/\(cs.getD i dC).s.size<=maxLen)
def zY (w:World) (z:Nat) (v:Value) (ps:List (Int × Int)):Prop:=At w z v ps.length 2 (fun i b o=>w.cell? ⟨b,o,none⟩=some (int i64 (ps.getD i (0,0)).1)/\w.cell? ⟨b,o+1,none⟩=some (int i64 (ps.getD i (0,0)).2))
def zJ (w:World) (z:Nat) (v:Value) (rs:List R):Prop:=At w z v rs.length 2 (fun i b o=>∃ u,w.cell? ⟨b,o,none⟩=some u/\w.cell? ⟨b,o+1,none⟩=some (.bool (rs.getD i dR).whole)/\z0T w z u (rs.getD i dR).cells)
def z4f (w:World) (z:Nat) (v:Value) (t:T):Prop:=∃ vc vr,v=.agg #[vc,int i64 t.head,int i64 t.foot,vr,int i64 t.gap]/\zY w z vc t.cols/\zJ w z vr t.rows
structure zi (z:Nat) (w w':World):Prop where
 size:w.heap.size<=w'.heap.size
 block:∀ k,z<=k->k < w.heap.size->w'.heap[k]?=w.heap[k]?
theorem zi.of_below {z:Nat} {w w':World} (h:Below w.heap.size w w'):zi z w w':=⟨h.size,fun k _ hk=>h.block k hk⟩
theorem zi.refl (z:Nat) (w:World):zi z w w:=⟨Nat.le_refl _,fun _ _ _=>rfl⟩
theorem zi.trans {z:Nat} {a b c:World} (h:zi z a b) (k:zi z b c):zi z a c:=⟨Nat.le_trans h.size k.size,fun i h1 h2=>(k.block i h1 (Nat.lt_of_lt_of_le h2 h.size)).trans (h.block i h1 h2)⟩
theorem zi.set {z:Nat} {a w:World} (h:zi z a w) {p:Addr} (hp:p.block < z) (v:Value):zi z a (w.setCell p v) :=
 ⟨by simpa [World.setCell] using h.size,fun k h1 h2=>(Below.heap_setCell _ _ _ _ (by omega)).trans (h.block k h1 h2)⟩
theorem zi.alloc {z:Nat} {a w:World} (h:zi z a w) (o:Obj):zi z a (w.alloc o):=h.trans (zi.of_below (ze (Below.refl _ _) _))
theorem zi.cell {z:Nat} {w w':World} (h:zi z w w') {b:Nat} (h1:z<=b) (h2:b < w.heap.size) (p:Nat):w'.cell? ⟨b,p,none⟩=w.cell? ⟨b,p,none⟩:=World.cell?_of_block (w:=w) (a:=⟨b,p,none⟩) (h.block b h1 h2)
theorem At.mono {w w':World} {z z':Nat} {v:Value} {n sz:Nat} {E E':Nat->Nat->Nat->Prop} (h:At w z v n sz E) (hz:w.heap.size<=w'.heap.size) (hzz:z'<=z) (hE:∀ i b o,i < n->b < w.heap.size->z<=b->E i b o->E' i b o):At w' z' v n sz E':=by
 obtain ⟨a,cap,e,h1,h2,hx⟩:=h;refine ⟨a,cap,e,h1,h2,fun i hi=>?_⟩;obtain ⟨b,off,ea,hb,hzb,he⟩:=hx i hi;exact ⟨b,off,ea,Nat.lt_of_lt_of_le hb hz,Nat.le_trans hzz hzb,hE i b _ hi hb hzb he⟩
theorem z60.since {w w':World} {z b o:Nat} {x:C} (h:z60 w b o x) (hb:b < w.heap.size) (hz:z<=b) (k:zi z w w'):z60 w' b o x:=by
 unfold z60 at h |-;simp only [k.cell hz hb];exact h
theorem z0T.since {w w':World} {z:Nat} {v:Value} {cs:List C} (h:z0T w z v cs) (k:zi z w w'):z0T w' z v cs :=
 At.mono h k.size (Nat.le_refl _) (fun _ _ _ _ hb hz he=>⟨he.1.since hb hz k,he.2⟩)
theorem zY.since {w w':World} {z:Nat} {v:Value} {cs:List (Int × Int)} (h:zY w z v cs) (k:zi z w w'):zY w' z v cs :=
 At.mono h k.size (Nat.le_refl _) (fun _ _ _ _ hb hz he=>⟨(k.cell hz hb _).trans he.1,(k.cell hz hb _).trans he.2⟩)
theorem zJ.since {w w':World} {z:Nat} {v:Value} {rs:List R} (h:zJ w z v rs) (k:zi z w w'):zJ w' z v rs :=
 At.mono h k.size (Nat.le_refl _) (fun _ _ _ _ hb hz ⟨u,h1,h2,h3⟩=>⟨u,(k.cell hz hb _).trans h1,(k.cell hz hb _).trans h2,h3.since k⟩)
theorem z4f.since {w w':World} {z:Nat} {v:Value} {t:T} (h:z4f w z v t) (k:zi z w w'):z4f w' z v t:=by
 obtain ⟨vc,vr,e,h1,h2⟩:=h;exact ⟨vc,vr,e,h1.since k,h2.since k⟩
theorem z0T.kept {w w':World} {z:Nat} {v:Value} {cs:List C} (h:z0T w z v cs) (k:Below w.heap.size w w'):z0T w' z v cs:=h.since (.of_below k)
theorem zY.kept {w w':World} {z:Nat} {v:Value} {cs:List (Int × Int)} (h:zY w z v cs) (k:Below w.heap.size w w'):zY w' z v cs:=h.since (.of_below k)
theorem zJ.kept {w w':World} {z:Nat} {v:Value} {rs:List R} (h:zJ w z v rs) (k:Below w.heap.size w w'):zJ w' z v rs:=h.since (.of_below k)
theorem z4f.kept {w w':World} {z:Nat} {v:Value} {t:T} (h:z4f w z v t) (k:Below w.heap.size w w'):z4f w' z v t:=h.since (.of_below k)
theorem z0T.base {w:World} {z z':Nat} {v:Value} {cs:List C} (h:z0T w z v cs) (hz:z'<=z):z0T w z' v cs:=At.mono h (Nat.le_refl _) hz (fun _ _ _ _ _ _ he=>he)
theorem zY.base {w:World} {z z':Nat} {v:Value} {cs:List (Int × Int)} (h:zY w z v cs) (hz:z'<=z):zY w z' v cs:=At.mono h (Nat.le_refl _) hz (fun _ _ _ _ _ _ he=>he)
theorem zJ.base {w:World} {z z':Nat} {v:Value} {rs:List R} (h:zJ w z v rs) (hz:z'<=z):zJ w z' v rs:=At.mono h (Nat.le_refl _) hz (fun _ _ _ _ _ _ ⟨u,h1,h2,h3⟩=>⟨u,h1,h2,h3.base hz⟩)
theorem At.get {w:World} {z:Nat} {v:Value} {n sz:Nat} {E:Nat->Nat->Nat->Prop} (h:At w z v n sz E) {i:Nat} (hi:i < n):∃ b off cap,v=.slice (some ⟨b,off,none⟩) n cap/\n<=cap/\cap<=maxLen/\b < w.heap.size/\E i b (off+i * sz):=by
 obtain ⟨a,cap,e,h1,h2,hx⟩:=h;obtain ⟨b,off,rfl,hb,_,he⟩:=hx i hi;exact ⟨b,off,cap,e,h1,h2,hb,he⟩
theorem At.form {w:World} {z:Nat} {v:Value} {n sz:Nat} {E:Nat->Nat->Nat->Prop} (h:At w z v n sz E):∃ a cap,v=.slice a n cap/\n<=maxLen:=by
 obtain ⟨a,cap,e,h1,h2,_⟩:=h;exact ⟨a,cap,e,Nat.le_trans h1 h2⟩
def zdt:List C->Nat
 | []=>0
 | x :: r=>1+x.s.size+zdt r
def zfo:List R->Nat
 | []=>0
 | x :: r=>1+zdt x.cells+zfo r
def zgA (t:T):Nat:=t.cols.length+zfo t.rows
def zgB (cs:List C) (k:Nat):Nat:=((cs.take k).map (fun x=>x.s.size)).sum
def zgC (rs:List R) (k:Nat):Nat:=((rs.take k).map (fun x=>zdt x.cells)).sum
structure GC where
 row:Int
 col:Int
 rows:Int
 cols:Int
 ins:Int
structure G where
 rows:Int
 cols:Int
 cells:List GC
def dG:GC:=⟨0,0,0,0,0⟩
def I64 (n:Int):Prop:=-9223372036854775808<=n/\n<=9223372036854775807
def GOk (x:GC):Prop:=I64 x.row/\I64 x.col/\I64 x.rows/\I64 x.cols/\I64 x.ins
def GIs (w:World) (b o:Nat) (x:GC):Prop :=
 w.cell? ⟨b,o,none⟩=some (int i64 x.row)/\w.cell? ⟨b,o+1,none⟩=some (int i64 x.col)/\w.cell? ⟨b,o+2,none⟩=some (int i64 x.rows) /\
 w.cell? ⟨b,o+3,none⟩=some (int i64 x.cols)/\w.cell? ⟨b,o+4,none⟩=some (int i64 x.ins)
def z2W (w:World) (z:Nat) (v:Value) (gs:List GC):Prop:=At w z v gs.length 5 (fun i b o=>GIs w b o (gs.getD i dG)/\GOk (gs.getD i dG))
def zgv (w:World) (z:Nat) (v:Value) (g:G):Prop:=∃ vc,v=.agg #[int i64 g.rows,int i64 g.cols,vc]/\z2W w z vc g.cells
theorem GIs.since {w w':World} {z b o:Nat} {x:GC} (h:GIs w b o x) (hb:b < w.heap.size) (hz:z<=b) (k:zi z w w'):GIs w' b o x:=by
 unfold GIs at h |-;simp only [k.cell hz hb];exact h
theorem z2W.since {w w':World} {z:Nat} {v:Value} {gs:List GC} (h:z2W w z v gs) (k:zi z w w'):z2W w' z v gs :=
 At.mono h k.size (Nat.le_refl _) (fun _ _ _ _ hb hz he=>⟨he.1.since hb hz k,he.2⟩)
theorem z2W.kept {w w':World} {z:Nat} {v:Value} {gs:List GC} (h:z2W w z v gs) (k:Below w.heap.size w w'):z2W w' z v gs:=h.since (.of_below k)
theorem z2W.base {w:World} {z z':Nat} {v:Value} {gs:List GC} (h:z2W w z v gs) (hz:z'<=z):z2W w z' v gs:=At.mono h (Nat.le_refl _) hz (fun _ _ _ _ _ _ he=>he)
def zgq (p:GC->Bool) (gs:List GC):Int:=match gs.findIdx? p with | some k=>(k:Int) | none=>-1
def zeF (R C:Int) (n:Nat):Bool:=inB R 1 8 && (inB C 1 94 && decide (n<=40))
def z2a (R C:Int) (x:GC):Bool:=inB x.row 0 (R - 1) && (inB x.rows 1 (R - x.row) && (inB x.col 0 (C - 1) && (inB x.cols 1 (C - x.col) && inB x.ins 0 4)))
def z2F (a b:GC):Bool:=decide (a.row < b.row+b.rows) && (decide (b.row < a.row+a.rows) && (decide (a.col < b.col+b.cols) && decide (b.col < a.col+a.cols)))
def z18 (xs:List GC) (x:GC):Bool:=xs.all fun a=>!z2F a x
def zg5 (R C:Int) (gs:List GC) (k:Nat):Bool:=(List.range k).all fun i=>z2a R C (gs.getD i dG) && z18 (gs.take i) (gs.getD i dG)
def okB (g:G):Bool:=zeF g.rows g.cols g.cells.length && zg5 g.rows g.cols g.cells g.cells.length
def zfp (R C:Int) (x:GC) (r c rs cs:Nat):Prop:=x.row=r/\x.col=c/\x.rows=rs/\x.cols=cs/\1<=rs/\1<=cs/\((r+rs:Nat):Int)<=R/\((c+cs:Nat):Int)<=C
theorem z4w {R C:Int} {x:GC} (h:z2a R C x=true):zfp R C x x.row.toNat x.col.toNat x.rows.toNat x.cols.toNat:=by
 simp [z2a,inB] at h;unfold zfp;omega
def z2Z (x:GC):List Sl:=z0C x.row.toNat x.col.toNat x.cols.toNat x.rows.toNat
def z0f (gs:List GC):List (Nat × Nat):=(gs.flatMap z2Z).map (·.1)
theorem z9t (gs:List GC) (x:GC):z0f (gs ++ [x])=z0f gs ++ (z2Z x).map (·.1):=by simp [z0f]
theorem zbu {r c rs cs:Nat} (hr:r+rs<=1000) (hc:c+cs<=1000) (y:Nat × Nat):y ∈ (z0C r c cs rs).map (·.1) ↔ (r<=y.1/\y.1 < r+rs)/\c<=y.2/\y.2 < c+cs:=by
 simp only [z0C,z2m,List.mem_map,List.mem_flatMap,List.mem_range];constructor
 ·rintro ⟨z,⟨i,hi,j,hj,rfl⟩,rfl⟩;rw [z6V (by omega)];dsimp only;omega
 ·rintro ⟨⟨h1,h2⟩,h3,h4⟩;refine ⟨z61 (r+(y.1 - r)) (c+(y.2 - c)),⟨y.1 - r,by omega,y.2 - c,by omega,rfl⟩,?_⟩;rw [z6V (by omega)];exact Prod.ext (by dsimp only;omega) (by dsimp only;omega)
theorem z4g {R C:Int} {x:GC} (h:z2a R C x=true) (hR:R<=8) (hC:C<=94) (y:Nat × Nat):y ∈ (z2Z x).map (·.1) ↔ (x.row<=y.1/\(y.1:Int) < x.row+x.rows)/\x.col<=y.2/\(y.2:Int) < x.col+x.cols:=by
 obtain ⟨e1,e2,e3,e4,h1,h2,h3,h4⟩:=z4w h;unfold z2Z;rw [zbu (by omega) (by omega)];omega
theorem z8u {R C:Int} {a x:GC} (ha:z2a R C a=true) (hx:z2a R C x=true) (hR:R<=8) (hC:C<=94):z2F a x=true ↔ ∃ y,y ∈ (z2Z a).map (·.1)/\y ∈ (z2Z x).map (·.1):=by
 obtain ⟨a1,a2,a3,a4,a5,a6,a7,a8⟩:=z4w ha;obtain ⟨x1,x2,x3,x4,x5,x6,x7,x8⟩:=z4w hx;have e:z2F a x=true ↔ a.row < x.row+x.rows/\x.row < a.row+a.rows/\a.col < x.col+x.cols/\x.col < a.col+a.cols:=(by simp [z2F]);rw [e];constructor
 ·rintro ⟨h1,h2,h3,h4⟩;refine ⟨(max a.row.toNat x.row.toNat,max a.col.toNat x.col.toNat),(z4g ha hR hC _).2 ?_,(z4g hx hR hC _).2 ?_⟩
  ·dsimp only;omega
  ·dsimp only;omega
 ·rintro ⟨y,h1,h2⟩;have k1:=(z4g ha hR hC _).1 h1;have k2:=(z4g hx hR hC _).1 h2;omega
theorem zeG {R C:Int} {gs:List GC} {x:GC} (hg:∀ a ∈ gs,z2a R C a=true) (hx:z2a R C x=true) (hR:R<=8) (hC:C<=94):z4G (z0f gs) x.row.toNat x.col.toNat x.rows.toNat x.cols.toNat=z18 gs x:=by
 rw [Bool.eq_iff_iff];unfold z4G z18;rw [List.all_eq_true,List.all_eq_true];constructor
 ·intro h a ha
  cases hm:z2F a x with
  | false=>rfl
  | true =>
   obtain ⟨y,h1,h2⟩:=(z8u (hg a ha) hx hR hC).1 hm;obtain ⟨z,hz,rfl⟩:=List.mem_map.1 h2;have:=of_decide_eq_true (h z hz);refine absurd ?_ this;obtain ⟨u,hu,e⟩:=List.mem_map.1 h1;exact List.mem_map.2 ⟨u,List.mem_flatMap.2 ⟨a,ha,hu⟩,e⟩
 ·intro h z hz;refine decide_eq_true (fun hm=>?_);obtain ⟨u,hu,e⟩:=List.mem_map.1 hm;obtain ⟨a,ha,hua⟩:=List.mem_flatMap.1 hu;have:=h a ha;rw [(z8u (hg a ha) hx hR hC).2 ⟨z.1,List.mem_map.2 ⟨u,hua,e⟩,List.mem_map.2 ⟨z,hz,rfl⟩⟩] at this
  cases this
theorem zcn (r c a:Nat):(z2m r c a).length=a:=by simp [z2m]
theorem zbv (r c cs d:Nat):(z0C r c cs d).length=d * cs:=by
 induction d with
 | zero=>simp [z0C]
 | succ d ih=>rw [z56,List.length_append,ih,zcn,Nat.succ_mul]
theorem z7k {R C:Int} {x:GC} (h:z2a R C x=true) (hR:R<=8) (hC:C<=94):(z2Z x).length<=752:=by
 obtain ⟨e1,e2,e3,e4,h1,h2,h3,h4⟩:=z4w h;unfold z2Z;rw [zbv];have a1:x.rows.toNat<=8:=(by omega);have a2:x.cols.toNat<=94:=(by omega);exact Nat.mul_le_mul a1 a2
theorem z6A {R C:Int} (hR:R<=8) (hC:C<=94):∀ (gs:List GC),(∀ a ∈ gs,z2a R C a=true)->(z0f gs).length<=gs.length * 752
 | [],_=>by simp [z0f]
 | a :: t,h=>by
  have h1:=z7k (h a (by simp)) hR hC;have h2:=z6A hR hC t (fun b hb=>h b (by simp [hb]));simp only [z0f,List.length_map,List.flatMap_cons,List.length_append,List.length_cons] at h2 |-;omega
end
section
theorem zg6 (l:Int) (N:Nat):(((List.range N).countP (fun c:Nat=>decide (l<=(c:Int)/\(c:Int) < l+7)):Nat):Int)<=max 0 (min 7 (N - l)):=by
 induction N with
 | zero=>simp;omega
 | succ N ih =>
  rw [List.range_succ,List.countP_append,List.countP_cons,List.countP_nil];by_cases h:l<=(N:Int)/\(N:Int) < l+7
  ·rw [if_pos (decide_eq_true h)];omega
  ·rw [if_neg (by simpa using h)];omega
theorem zco {α:Type} (p q:α->Bool) (l:List α):l.countP (fun x=>p x || q x)<=l.countP p+l.countP q:=by
 induction l with
 | nil=>simp
 | cons a t ih =>
  rw [List.countP_cons,List.countP_cons,List.countP_cons]
  cases p a <;> cases q a <;> simp <;> omega
theorem z9u (N:Nat):∀ ls:List Int,(List.range N).countP (fun c:Nat=>ls.any fun l=>decide (l<=(c:Int)/\(c:Int) < l+7))<=7 * ls.length
 | []=>by simp
 | l :: t=>by
  have h1:=z9u N t;have h2:=zg6 l N;have h3:=zco (fun c:Nat=>decide (l<=(c:Int)/\(c:Int) < l+7)) (fun c:Nat=>t.any fun l=>decide (l<=(c:Int)/\(c:Int) < l+7)) (List.range N);simp only [List.any_cons,List.length_cons];omega
theorem zcp (ls:List Int):∃ c:Nat,c<=7 * ls.length/\∀ l ∈ ls,¬ (l<=(c:Int)/\(c:Int) < l+7):=by
 apply Classical.byContradiction;intro hn
 have hall:∀ c ∈ List.range (7 * ls.length+1),(ls.any fun l=>decide (l<=(c:Int)/\(c:Int) < l+7))=true:=by
  intro c hc;rw [List.mem_range] at hc;apply Classical.byContradiction;intro h;refine hn ⟨c,by omega,fun l hl h2=>h ?_⟩;exact List.any_eq_true.2 ⟨l,hl,decide_eq_true h2⟩
 have h1:=List.countP_eq_length.2 hall;have h2:=z9u (7 * ls.length+1) ls;rw [List.length_range] at h1;omega
def z0A (x:GC) (c:Int):GC:=⟨x.row,c,x.rows,x.cols,x.ins⟩
def z3B (a x:GC):Bool:=decide (a.row < x.row+x.rows) && decide (x.row < a.row+a.rows)
theorem zav (gs:List GC) (x:GC) (hx:1<=x.cols/\x.cols<=4) (hg:∀ a ∈ gs,1<=a.cols/\a.cols<=4):∃ c:Nat,c<=7 * (gs.filter fun a=>z3B a x).length/\z18 gs (z0A x c)=true:=by
 obtain ⟨c,h1,h2⟩:=zcp ((gs.filter fun a=>z3B a x).map fun a=>a.col - x.cols+1);rw [List.length_map] at h1;refine ⟨c,h1,List.all_eq_true.2 fun a ha=>?_⟩
 cases hm:z2F a (z0A x c) with
 | false=>rfl
 | true =>
  exfalso
  unfold z2F z0A at hm;simp only [Bool.and_eq_true,decide_eq_true_eq] at hm;have hc:=hg a ha;refine h2 (a.col - x.cols+1) (List.mem_map.2 ⟨a,List.mem_filter.2 ⟨ha,?_⟩,rfl⟩) (by omega);simp only [z3B,Bool.and_eq_true,decide_eq_true_eq];omega
def z3i (N:Nat) (gs:List GC) (x:GC):Nat:=(List.range N).findIdx (fun c:Nat=>z18 gs (z0A x c))
theorem zcq {N:Nat} {gs:List GC} {x:GC} {c:Nat} (hc:c < N) (h:z18 gs (z0A x c)=true):z3i N gs x<=c/\z18 gs (z0A x (z3i N gs x))=true/\∀ k,k < z3i N gs x->z18 gs (z0A x (k:Nat))=false:=by
 have hl:z3i N gs x < (List.range N).length:=List.findIdx_lt_length_of_exists ⟨c,List.mem_range.2 hc,h⟩
 have hno:∀ k,k < z3i N gs x->z18 gs (z0A x (k:Nat))=false:=by
  intro k hk;have:=List.not_of_lt_findIdx (p:=fun c:Nat=>z18 gs (z0A x c)) (xs:=List.range N) hk
  simpa using this
 refine ⟨?_,?_,hno⟩
 ·apply Classical.byContradiction;intro hn;have:=hno c (by omega);rw [h] at this
  cases this
 ·have e:(List.range N)[z3i N gs x]'hl=z3i N gs x:=List.getElem_range hl;have h1:z18 gs (z0A x (((List.range N)[z3i N gs x]'hl:Nat):Int))=true:=List.findIdx_getElem (p:=fun c:Nat=>z18 gs (z0A x c)) (xs:=List.range N) (w:=hl);rw [e] at h1;exact h1
def z3j (gs:List GC) (x:GC):Nat:=z3i 1000 gs x
theorem z9v {gs:List GC} {x:GC} {c:Nat} (hc:c < 1000) (h:z18 gs (z0A x c)=true):z3j gs x<=c/\z18 gs (z0A x (z3j gs x))=true/\∀ k,k < z3j gs x->z18 gs (z0A x (k:Nat))=false:=zcq hc h
def z06 (t:T) (r:Nat):Int:=if (r:Int) < t.head then t.head else if (t.rows.length:Int) - t.foot<=r then t.rows.length else t.rows.length - t.foot
def z2w (r i:Nat) (e:Int) (x:C):GC:=⟨r,0,min x.r (e - r),x.c,i⟩
def z0F (gs:List GC) (r i:Nat) (e:Int) (x:C):GC:=z0A (z2w r i e x) (z3j gs (z2w r i e x))
def z15 (e:Int) (r:Nat) (cs:List C) (gs:List GC):Nat->List GC
 | 0=>gs
 | i+1=>z15 e r cs gs i ++ [z0F (z15 e r cs gs i) r i e (cs.getD i dC)]
def z03 (t:T):Nat->List GC
 | 0=>[]
 | r+1=>z15 (z06 t r) r (t.rows.getD r dR).cells (z03 t r) (t.rows.getD r dR).cells.length
def z0v (m:Int) (gs:List GC):Int:=gs.foldl (fun m a=>max m (a.col+a.cols)) m
theorem z57 (m:Int) (gs:List GC) (x:GC):z0v m (gs ++ [x])=max (z0v m gs) (x.col+x.cols):=by simp [z0v]
structure Low (t:T):Prop where
 rows:t.rows.length<=8
 span:∀ r ∈ t.rows,∀ x ∈ r.cells,(1<=x.c/\x.c<=4)/\1<=x.r/\x.r<=3
 few:∃ k,∀ i,(t.rows.getD i dR).cells.length<=if i=k then 5 else 4
 head:0<=t.head/\t.head<=t.rows.length
 foot:0<=t.foot/\t.head+t.foot<=t.rows.length
def z19 (n:Nat) (a:GC):Prop:=(0<=a.row/\1<=a.rows/\a.rows<=3/\a.row+a.rows<=n)/\(0<=a.col/\a.col<=84)/\(1<=a.cols/\a.cols<=4)/\0<=a.ins/\a.ins<=4
theorem z4H {t:T} (h:Low t) {r:Nat} (hr:r < t.rows.length):(r:Int) < z06 t r/\z06 t r<=t.rows.length:=by
 have h1:=h.head;have h2:=h.foot;unfold z06
 split
 ·omega
 ·split <;> omega
def z2e (gs:List GC) (q:Int):Nat:=gs.countP fun a=>decide (a.row=q)
theorem z6B (gs:List GC) (x:GC) (q:Int):z2e (gs ++ [x]) q=z2e gs q+if x.row=q then 1 else 0:=by
 simp [z2e,List.countP_append,List.countP_cons]
theorem z9w (r:Nat) (x:GC) (hx:x.row=r):∀ gs:List GC,(∀ a ∈ gs,a.row<=r/\a.rows<=3)->(gs.filter fun a=>z3B a x).length<=z2e gs r+(z2e gs ((r:Int) - 1)+z2e gs ((r:Int) - 2))
 | [],_=>by simp
 | a :: t,h=>by
  have ih:=z9w r x hx t (fun b hb=>h b (by simp [hb]));have ha:=h a (by simp);unfold z2e at ih |-;rw [List.countP_cons,List.countP_cons,List.countP_cons,List.filter_cons]
  split
  ·rename_i hm
   simp only [z3B,Bool.and_eq_true,decide_eq_true_eq] at hm;rw [List.length_cons]
   rcases (by omega:a.row=r\/a.row=(r:Int) - 1\/a.row=(r:Int) - 2) with e | e | e
   ·simp [e];omega
   ·simp [e];omega
   ·simp [e];omega
  ·omega
structure z2G (t:T) (gs:List GC) (r i:Nat):Prop where
 stands:∀ a ∈ gs,z19 t.rows.length a/\a.row<=r
 cnt:∀ q:Nat,z2e gs q=if q < r then (t.rows.getD q dR).cells.length else if q=r then i else 0
 neg:∀ q:Int,q < 0->z2e gs q=0
theorem z2G.few {t:T} {gs:List GC} {r i:Nat} (h:z2G t gs r i) (hl:Low t) (hi:i < (t.rows.getD r dR).cells.length) (x:GC) (hx:x.row=r):(gs.filter fun a=>z3B a x).length<=12:=by
 have h1:=z9w r x hx gs (fun a ha=>⟨(h.stands a ha).2,(h.stands a ha).1.1.2.2.1⟩);obtain ⟨k,hk⟩:=hl.few;have k0:=hk r;have c0:=h.cnt r;rw [if_neg (by omega),if_pos rfl] at c0
 have c1:z2e gs ((r:Int) - 1)<=if r - 1=k/\1<=r then 5 else 4:=by
  by_cases hr:1<=r
  ·have e:=h.cnt (r - 1);rw [if_pos (by omega),show ((r - 1:Nat):Int)=(r:Int) - 1 by omega] at e;have:=hk (r - 1)
   split at this <;> split <;> omega
  ·rw [h.neg _ (by omega)];omega
 have c2:z2e gs ((r:Int) - 2)<=if r - 2=k/\2<=r then 5 else 4:=by
  by_cases hr:2<=r
  ·have e:=h.cnt (r - 2);rw [if_pos (by omega),show ((r - 2:Nat):Int)=(r:Int) - 2 by omega] at e;have:=hk (r - 2)
   split at this <;> split <;> omega
  ·rw [h.neg _ (by omega)];omega
 split at k0 <;> split at c1 <;> split at c2 <;> omega
theorem z1L {α:Type} {l:List α} {i:Nat} {d:α} (h:i < l.length):l.getD i d ∈ l:=by
 have e:l.getD i d=l[i]:=(by simp [List.getD,h]);rw [e];exact List.getElem_mem _
theorem z2G.next {t:T} {gs:List GC} {r i:Nat} (h:z2G t gs r i) (hl:Low t) (hr:r < t.rows.length) (hi:i < (t.rows.getD r dR).cells.length) :
  (let x:=z2w r i (z06 t r) ((t.rows.getD r dR).cells.getD i dC)
   z3j gs x<=84/\z18 gs (z0A x (z3j gs x))=true/\(∀ k,k < z3j gs x->z18 gs (z0A x (k:Nat))=false)/\∀ k:Nat,k<=84->z19 t.rows.length (z0A x k)) /\
  z2G t (gs ++ [z0F gs r i (z06 t r) ((t.rows.getD r dR).cells.getD i dC)]) r (i+1):=by
 have hm:=z1L (d:=dR) hr;have hx:=hl.span _ hm _ (z1L (d:=dC) hi);have he:=z4H hl hr
 have hi5:i<=4:=by
  obtain ⟨k,hk⟩:=hl.few;have:=hk r
  split at this <;> omega
 dsimp only;generalize hX:(t.rows.getD r dR).cells.getD i dC=x at hx;have hf:=h.few hl hi (z2w r i (z06 t r) x) rfl;obtain ⟨c,hc,hfree⟩:=zav gs (z2w r i (z06 t r) x) hx.1 (fun a ha=>(h.stands a ha).1.2.2.1);obtain ⟨f1,f2,f3⟩:=z9v (by omega) hfree
 have hst:∀ k:Nat,k<=84->z19 t.rows.length (z0A (z2w r i (z06 t r) x) k):=by
  intro k hk;simp only [z19,z0A,z2w];omega
 refine ⟨⟨by omega,f2,f3,hst⟩,?_,?_,?_⟩
 ·intro a ha
  rcases List.mem_append.1 ha with ha | ha
  ·exact h.stands a ha
  ·simp at ha;subst ha;exact ⟨hst _ (by omega),Int.le_refl _⟩
 ·intro q;have hrow:(z0F gs r i (z06 t r) x).row=(r:Int):=rfl;rw [z6B,h.cnt q,hrow];by_cases h1:q < r
  ·rw [if_pos h1,if_pos h1,if_neg (by omega:¬ (r:Int)=q),Nat.add_zero]
  ·rw [if_neg h1,if_neg h1];by_cases h2:q=r
   ·subst h2;simp
   ·rw [if_neg h2,if_neg h2,if_neg (by omega)]
 ·intro q hq;have hrow:(z0F gs r i (z06 t r) x).row=(r:Int):=rfl;rw [z6B,h.neg q hq,hrow,if_neg (by omega)]
theorem z2G.zero (t:T):z2G t [] 0 0:=⟨fun a ha=>(by cases ha),fun q=>(by simp [z2e]),fun q _=>(by simp [z2e])⟩
theorem z2G.rowEnd {t:T} {gs:List GC} {r:Nat} (h:z2G t gs r (t.rows.getD r dR).cells.length):z2G t gs (r+1) 0:=by
 refine ⟨fun a ha=>⟨(h.stands a ha).1,by have:=(h.stands a ha).2;omega⟩,fun q=>?_,h.neg⟩;rw [h.cnt q];by_cases h1:q < r
 ·rw [if_pos h1,if_pos (by omega)]
 ·rw [if_neg h1];by_cases h2:q=r
  ·subst h2;simp
  ·rw [if_neg h2,if_neg (by omega)]
   split <;> rfl
theorem z6W {t:T} (hl:Low t) {r:Nat} (hr:r < t.rows.length) (h:z2G t (z03 t r) r 0):∀ i,i<=(t.rows.getD r dR).cells.length->z2G t (z15 (z06 t r) r (t.rows.getD r dR).cells (z03 t r) i) r i
 | 0,_=>h
 | i+1,hi=>(z2G.next (z6W hl hr h i (by omega)) hl hr (by omega)).2
theorem z63 {t:T} (hl:Low t):∀ r,r<=t.rows.length->z2G t (z03 t r) r 0
 | 0,_=>z2G.zero t
 | r+1,hr=>(z6W hl (by omega) (z63 hl r (by omega)) _ (Nat.le_refl _)).rowEnd
theorem z8v (e:Int) (r:Nat) (cs:List C) (gs:List GC) (i:Nat):(z15 e r cs gs i).length=gs.length+i:=by
 induction i with
 | zero=>rfl
 | succ i ih=>simp only [z15,List.length_append,ih,List.length_cons,List.length_nil];omega
theorem z9x {t:T} (hl:Low t) (r:Nat):(z03 t r).length<=5 * r:=by
 induction r with
 | zero=>simp [z03]
 | succ r ih =>
  obtain ⟨k,hk⟩:=hl.few;have:=hk r;simp only [z03,z8v]
  split at this <;> omega
def zN (t:T):List GC:=z03 t t.rows.length
end
section
open Go.RowKit
structure BW (w:World) where
 u:World
 h:Below w.heap.size w u
theorem z1e (w:World):Nonempty (BW w):=⟨⟨w,Below.refl _ _⟩⟩
theorem z0d {P:Program} {id:Nat} {Q:Exit->Act->World->Prop} {a:Act} {w:World} {l:List Oper} (hm:P.follows .mixedOrders=true) (hB:Region.lexB .any l.toArray=true)
  (h:wpQuiet P l.toArray (fun w'=>∃ p:BW w,w'=p.u) (fun a'=>∀ w',(∃ p:BW w,w'=p.u)->Q .normal a' w') l a):(Code.region id l.toArray true).wp P Q a w :=
 wp_region_quiet (C:=fun w'=>∃ p:BW w,w'=p.u) hm hB ⟨⟨_,z1P (Below.refl _ _)⟩,rfl⟩ (by simpa using h)
theorem z2y {P:Program} {f:FuncId} {args:Array Value} {w:World} {p:BW w} {v:Value} (h:Calls P f args p.u fun e w'=>e=.returned v/\Below p.u.heap.size p.u w') :
  Calls P f args p.u fun e w''=>e=.returned v/\∃ p:BW w,w''=p.u :=
 h.mono fun _ _ ⟨he,hb⟩=>⟨he,⟨_,zg p.h hb⟩,rfl⟩
theorem z4x {P:Program} {f:FuncId} {args:Array Value} {w:World} {p:BW w} {v:Value} (h:Calls P f args p.u fun e w'=>e=.returned v/\w'=p.u) :
  Calls P f args p.u fun e w''=>e=.returned v/\∃ p:BW w,w''=p.u :=
 h.mono fun _ _ ⟨he,hb⟩=>⟨he,p,hb⟩
theorem zj {w:World} {a:Addr} {v:Value} (hb:a.block < w.heap.size) (h:w.cell? a=some v) (p:BW w):p.u.cell? a=some v:=(p.h.cell hb).trans h
end
section
open Go.RowKit Go.BigFrame
def Sm (x:GC):Prop:=(0<=x.row/\x.row<=100000)/\(0<=x.col/\x.col<=100000)/\(0<=x.rows/\x.rows<=100000)/\(0<=x.cols/\x.cols<=100000)
theorem z2W.take {w:World} {z:Nat} {ac:Option Addr} {cc:Nat} {gs:List GC} (h:z2W w z (.slice ac gs.length cc) gs) {k:Nat} (hk:k<=gs.length):z2W w z (.slice ac (gs.take k).length cc) (gs.take k):=by
 obtain ⟨a,cap,e,h1,h2,hx⟩:=h;simp only [Value.slice.injEq,true_and] at e;obtain ⟨rfl,rfl⟩:=e;have hl:(gs.take k).length=k:=(by rw [List.length_take];omega);refine ⟨_,_,rfl,by omega,h2,fun i hi=>?_⟩;obtain ⟨b,off,ea,hb,hz,he⟩:=hx i (by omega);have e:(gs.take k).getD i dG=gs.getD i dG:=(by simp [List.getD,show i < k by omega]);exact ⟨b,off,ea,hb,hz,by dsimp only;rw [e];exact he⟩
def gcA (x:GC):Value:=.agg #[int i64 x.row,int i64 x.col,int i64 x.rows,int i64 x.cols,int i64 x.ins]
end
section
open Go.RowKit
theorem z04 {w:World} {base:Nat} {e:TypeId} {sz:Nat} {v:Value} {m:Nat} {xs:List Value} (h:w.ownsRow base e sz v m xs):∃ a cap,v=.slice a m cap/\m<=maxLen:=by
 rcases h.2 with ⟨rfl,rfl⟩ | ⟨g,cap,cur,rfl,_,_,h1,h2,_⟩
 ·exact ⟨none,0,rfl,by unfold maxLen;omega⟩
 ·exact ⟨_,cap,rfl,Nat.le_trans h1 h2⟩
theorem z0P {α:Type} (f:α->List Value) (sz:Nat) (hf:∀ x,(f x).length=sz) (l:List α) (i:Nat) (hi:i < l.length) (j:Nat) (hj:j < sz):(l.flatMap f)[i * sz+j]?=(f l[i])[j]?:=by
 induction l generalizing i with
 | nil=>simp at hi
 | cons a t ih =>
  rw [List.flatMap_cons]
  cases i with
  | zero=>rw [List.getElem?_append_left (by rw [hf];omega)];simp
  | succ i =>
   rw [List.getElem?_append_right (by rw [hf,Nat.succ_mul];omega),hf];have e:(i+1) * sz+j - sz=i * sz+j:=(by rw [Nat.succ_mul];omega);rw [e,ih i (by simpa using hi)];simp
theorem z11 {α:Type} (f:α->List Value) (sz:Nat) (hf:∀ x,(f x).length=sz) (l:List α):(l.flatMap f).length=l.length * sz:=by
 induction l with
 | nil=>simp
 | cons a t ih=>rw [List.flatMap_cons,List.length_append,hf,ih,List.length_cons,Nat.succ_mul];omega
theorem z31 {w:World} {base:Nat} {e:TypeId} {sz:Nat} {m:Nat} {xs:List Value} {g cap:Nat} (h:w.ownsRow base e sz (.slice (some ⟨g,0,none⟩) m cap) m xs) {k:Nat} {u:Value} (hk:xs[k]?=some u):w.cell? ⟨g,k,none⟩=some u:=by
 have hl:k < xs.length:=(List.getElem?_eq_some_iff.1 hk).1
 rcases h.2 with ⟨e,_⟩ | ⟨g',cap',cur,e,_,hc,_,_,_,ht⟩
 ·simp at e
 ·simp at e;obtain ⟨rfl,rfl⟩:=e;rw [zf hc,<-Array.getElem?_toList];rw [<-ht,List.getElem?_take_of_lt (by rw [h.1] at hl;exact hl)] at hk;exact hk
theorem z2u {w:World} {g:Nat} {arr:Array Value} {t:TypeId} (h:w.heap[g]?=some (.cells arr t)):∀ j u,arr.toList[j]?=some u->w.cell? ((⟨g,0,none⟩:Addr).add j)=some u:=fun j u hu=>by
 have e:(⟨g,0,none⟩:Addr).add j=⟨g,j,none⟩:=(by simp [Addr.add];intro h;exact h.symm);rw [e,zf h,<-Array.getElem?_toList];exact hu
def z01 (x:C):List Value:=[.string x.s,int i64 x.c,int i64 x.r,int i64 x.a1,int i64 x.b1,int i64 x.a2,int i64 x.b2,int i64 x.a3,int i64 x.b3,int i64 x.a4,int i64 x.b4]
def z1t (p:Int × Int):List Value:=[int i64 p.1,int i64 p.2]
def zG (p:Value × R):List Value:=[p.1,.bool p.2.whole]
def z0a (w:World) (base:Nat) (u:Value) (cs:List C):Prop:=w.ownsRow base 36 11 u cs.length (cs.flatMap z01)
def zO (w:World) (base:Nat) (v:Value) (ps:List (Int × Int)):Prop:=w.ownsRow base 55 2 v ps.length (ps.flatMap z1t)
structure zD (w:World) (base:Nat) (v:Value) (ur:List (Value × R)):Prop where
 own:w.ownsRow base 32 2 v ur.length (ur.flatMap zG)
 cells:∀ p ∈ ur,z0a w base p.1 p.2.cells
 apart:ur.Pairwise fun p q=>p.1.ownBlock=none\/p.1.ownBlock ≠ q.1.ownBlock
structure Off (n:Nat) (b1 b2:Option Nat) (w w':World):Prop where
 size:w.heap.size<=w'.heap.size
 block:∀ k,n<=k->k < w.heap.size->some k ≠ b1->some k ≠ b2->w'.heap[k]?=w.heap[k]?
theorem Off.bk {n r:Nat} {b1 b2:Option Nat} {w w':World} (h:Bk r w w') (hr:r < n):Off n b1 b2 w w':=⟨h.size,fun k hk hl _ _=>h.block k hl (by omega)⟩
theorem Off.grown {n:Nat} {b1 b2:Option Nat} {w w':World} (h:w.grownBy w' b2):Off n b1 b2 w w':=⟨h.size,fun k _ hl _ h2=>h.block k hl h2⟩
theorem Off.set {n g:Nat} {b2:Option Nat} (w:World) (p:Addr) (hp:p.block=g) (v:Value):Off n (some g) b2 w (w.setCell p v):=⟨by simp [World.setCell],fun k _ _ h1 _=>Below.heap_setCell _ _ _ _ (fun e=>h1 (by rw [e,hp]))⟩
theorem z05 {w w':World} {base n:Nat} {e:TypeId} {sz:Nat} {v:Value} {m:Nat} {xs:List Value} {b1 b2:Option Nat} (h:w.ownsRow base e sz v m xs) (k:Off n b1 b2 w w') (hn:n<=base) (h1:v.ownBlock=none\/v.ownBlock ≠ b1) (h2:v.ownBlock=none\/v.ownBlock ≠ b2):w'.ownsRow base e sz v m xs :=
 ⟨h.1,h.2.elim Or.inl (fun ⟨g,cap,cur,hv,hg,hc,q⟩=>Or.inr ⟨g,cap,cur,hv,hg,(k.block g (by omega) (bL hc)
  (fun e=>by subst hv;rcases h1 with h1 | h1 <;> simp [Value.ownBlock] at h1;exact h1 e)
  (fun e=>by subst hv;rcases h2 with h2 | h2 <;> simp [Value.ownBlock] at h2;exact h2 e)).trans hc,q⟩)⟩
theorem z1k {w:World} {base base':Nat} {e e':TypeId} {sz sz':Nat} {v v':Value} {m m':Nat} {xs xs':List Value} (h:w.ownsRow base e sz v m xs) (h':w.ownsRow base' e' sz' v' m' xs') (he:e ≠ e'):v.ownBlock=none\/v.ownBlock ≠ v'.ownBlock:=by
 rcases h.2 with ⟨rfl,_⟩ | ⟨g,cap,cur,rfl,_,hc,_⟩
 ·exact .inl rfl
 ·refine .inr (fun e1=>?_)
  rcases h'.2 with ⟨rfl,_⟩ | ⟨g',cap',cur',rfl,_,hc',_⟩
  ·simp [Value.ownBlock] at e1
  ·simp [Value.ownBlock] at e1;subst e1;rw [hc] at hc';simp at hc';exact he hc'.2
theorem zl {w:World} {base:Nat} {e e':TypeId} {sz:Nat} {v:Value} {m:Nat} {xs:List Value} {g:Nat} {cur:Array Value} (h:w.ownsRow base e sz v m xs) (h':w.heap[g]?=some (.cells cur e')) (he:e ≠ e'):v.ownBlock=none\/v.ownBlock ≠ some g:=by
 rcases h.2 with ⟨rfl,_⟩ | ⟨g',cap,cur',rfl,_,hc,_⟩
 ·exact .inl rfl
 ·refine .inr (fun e1=>?_);simp [Value.ownBlock] at e1;subst e1;rw [hc] at h';simp at h';exact he h'.2
theorem z0k {w:World} {base:Nat} {e:TypeId} {sz:Nat} {v:Value} {m:Nat} {xs:List Value} (h:w.ownsRow base e sz v m xs) {b:Nat} (hb:v.ownBlock=some b):base<=b/\b < w.heap.size:=by
 rcases h.2 with ⟨rfl,_⟩ | ⟨g,cap,cur,rfl,hg,hc,_⟩
 ·simp [Value.ownBlock] at hb
 ·simp [Value.ownBlock] at hb;subst hb;exact ⟨hg,(bL hc)⟩
theorem z0W {w:World} {base base':Nat} {e:TypeId} {sz:Nat} {v:Value} {m:Nat} {xs:List Value} (h:w.ownsRow base e sz v m xs) (hb:base'<=base):w.ownsRow base' e sz v m xs :=
 ⟨h.1,h.2.elim Or.inl (fun ⟨g,cap,cur,hv,hg,q⟩=>Or.inr ⟨g,cap,cur,hv,by omega,q⟩)⟩
theorem zD.off {w w':World} {base n:Nat} {v:Value} {ur:List (Value × R)} {b1 b2:Option Nat} (h:zD w base v ur) (k:Off n b1 b2 w w') (hn:n<=base) (h1:v.ownBlock=none\/v.ownBlock ≠ b1) (h2:v.ownBlock=none\/v.ownBlock ≠ b2)
  (hc:∀ p ∈ ur,(p.1.ownBlock=none\/p.1.ownBlock ≠ b1)/\(p.1.ownBlock=none\/p.1.ownBlock ≠ b2)):zD w' base v ur :=
 ⟨z05 h.own k hn h1 h2,fun p hp=>z05 (h.cells p hp) k hn (hc p hp).1 (hc p hp).2,h.apart⟩
def zg7 (v:Value) (b1 b2:Option Nat):Prop:=(v.ownBlock=none\/v.ownBlock ≠ b1)/\(v.ownBlock=none\/v.ownBlock ≠ b2)
theorem zI {α:Type} {l:List α} {i:Nat} (d:α) (h:i < l.length):l.getD i d=l[i]:=by simp [List.getD,h]
theorem z0a.at {w:World} {base:Nat} {u:Value} {cs:List C} (h:z0a w base u cs) (hs:∀ x ∈ cs,x.s.size<=61):z0T w base u cs:=by
 rcases h.2 with ⟨rfl,hn⟩ | ⟨g,cap,cur,rfl,hg,hc,h1,h2,_⟩
 ·exact ⟨none,0,by rw [hn],by omega,by unfold maxLen;omega,fun i hi=>by omega⟩
 ·refine ⟨_,cap,rfl,h1,h2,fun i hi=>⟨g,0,rfl,(bL hc),hg,?_,?_⟩⟩
  ·have hx:∀ j,j < 11->w.cell? ⟨g,i * 11+j,none⟩=(z01 cs[i])[j]?:=fun j hj=>by
    have e:=z0P z01 11 (fun _=>rfl) cs i hi j hj;rw [z31 h (u:=(z01 cs[i])[j]'(by show j < 11;exact hj)) (by rw [e];simp)];simp
   rw [zI dC hi,Nat.zero_add];exact ⟨hx 0 (by omega),hx 1 (by omega),hx 2 (by omega),hx 3 (by omega),hx 4 (by omega),hx 5 (by omega),hx 6 (by omega),hx 7 (by omega),hx 8 (by omega),hx 9 (by omega),hx 10 (by omega)⟩
  ·rw [zI dC hi];have:=hs _ (List.getElem_mem hi);unfold maxLen;omega
theorem zO.at {w:World} {base:Nat} {u:Value} {ps:List (Int × Int)} (h:zO w base u ps):zY w base u ps:=by
 rcases h.2 with ⟨rfl,hn⟩ | ⟨g,cap,cur,rfl,hg,hc,h1,h2,_⟩
 ·exact ⟨none,0,by rw [hn],by omega,by unfold maxLen;omega,fun i hi=>by omega⟩
 ·refine ⟨_,cap,rfl,h1,h2,fun i hi=>⟨g,0,rfl,(bL hc),hg,?_⟩⟩
  have hx:∀ j,j < 2->w.cell? ⟨g,i * 2+j,none⟩=(z1t ps[i])[j]?:=fun j hj=>by
   have e:=z0P z1t 2 (fun _=>rfl) ps i hi j hj;rw [z31 h (u:=(z1t ps[i])[j]'(by show j < 2;exact hj)) (by rw [e];simp)];simp
  dsimp only;rw [zI (0,0) hi,Nat.zero_add];exact ⟨hx 0 (by omega),hx 1 (by omega)⟩
theorem zD.at {w:World} {base:Nat} {v:Value} {ur:List (Value × R)} (h:zD w base v ur) (hs:∀ p ∈ ur,∀ x ∈ p.2.cells,x.s.size<=61):zJ w base v (ur.map (·.2)):=by
 have hl:(ur.map (·.2)).length=ur.length:=(by simp)
 rcases h.own.2 with ⟨rfl,hn⟩ | ⟨g,cap,cur,rfl,hg,hc,h1,h2,_⟩
 ·exact ⟨none,0,by rw [hl,hn],by rw [hl];omega,by unfold maxLen;omega,fun i hi=>by rw [hl] at hi;omega⟩
 ·refine ⟨_,cap,by rw [hl],by rw [hl];exact h1,h2,fun i hi=>⟨g,0,rfl,(bL hc),hg,?_⟩⟩;rw [hl] at hi
  have hx:∀ j,j < 2->w.cell? ⟨g,i * 2+j,none⟩=(zG ur[i])[j]?:=fun j hj=>by
   have e:=z0P zG 2 (fun _=>rfl) ur i hi j hj;rw [z31 h.own (u:=(zG ur[i])[j]'(by show j < 2;exact hj)) (by rw [e];simp)];simp
  have hm:=List.getElem_mem hi;dsimp only;rw [zI dR (by rw [hl];exact hi),Nat.zero_add,List.getElem_map];exact ⟨ur[i].1,hx 0 (by omega),hx 1 (by omega),(h.cells _ hm).at (hs _ hm)⟩
theorem zD.base {w:World} {base base':Nat} {v:Value} {ur:List (Value × R)} (h:zD w base v ur) (hb:base'<=base):zD w base' v ur:=⟨z0W h.own hb,fun p hp=>z0W (h.cells p hp) hb,h.apart⟩
def z6X (x:GC):List Value:=[int i64 x.row,int i64 x.col,int i64 x.rows,int i64 x.cols,int i64 x.ins]
def z9y (w:World) (base:Nat) (v:Value) (gs:List GC):Prop:=w.ownsRow base 73 5 v gs.length (gs.flatMap z6X)
theorem z9y.at {w:World} {base:Nat} {v:Value} {gs:List GC} (h:z9y w base v gs) (hs:∀ x ∈ gs,GOk x):z2W w base v gs:=by
 rcases h.2 with ⟨rfl,hn⟩ | ⟨g,cap,cur,rfl,hg,hc,h1,h2,_⟩
 ·exact ⟨none,0,by rw [hn],by omega,by unfold maxLen;omega,fun i hi=>by omega⟩
 ·refine ⟨_,cap,rfl,h1,h2,fun i hi=>⟨g,0,rfl,(bL hc),hg,?_,?_⟩⟩
  ·have hx:∀ j,j < 5->w.cell? ⟨g,i * 5+j,none⟩=(z6X gs[i])[j]?:=fun j hj=>by
    have e:=z0P z6X 5 (fun _=>rfl) gs i hi j hj;rw [z31 h (u:=(z6X gs[i])[j]'(by show j < 5;exact hj)) (by rw [e];simp)];simp
   rw [zI dG hi,Nat.zero_add];exact ⟨hx 0 (by omega),hx 1 (by omega),hx 2 (by omega),hx 3 (by omega),hx 4 (by omega)⟩
  ·rw [zI dG hi];exact hs _ (List.getElem_mem hi)
theorem z19.gok {n:Nat} {a:GC} (hn:n<=8) (h:z19 n a):GOk a:=by
 unfold z19 at h;unfold GOk I64;omega
theorem zfq:(Tryz.prog.info? 73).map (fun i=>(i.zero,i.size,i.bytes))=some (some (Value.agg #[int i64 0,int i64 0,int i64 0,int i64 0,int i64 0]),5,40):=by kernel_rfl
def z0H (a b:Int):Bool:=decide ((a=0\/a=4)/\b=0\/(1<=a/\a<=3)/\1<=b/\b<=3)
theorem z9z (b:Int):z0H 0 b=(b == 0):=by rw [Bool.eq_iff_iff];simp [z0H]
theorem z9A (b:Int):z0H 4 b=(b == 0):=by rw [Bool.eq_iff_iff];simp [z0H];
theorem z5v {a:Int} (b:Int) (h1:1<=a) (h2:a<=3):z0H a b=inB b 1 3:=by rw [Bool.eq_iff_iff];simp [z0H,inB];omega
theorem z8w {a:Int} (b:Int) (h0:a ≠ 0) (h4:a ≠ 4) (h:¬ (1<=a/\a<=3)):z0H a b=false:=by simp [z0H];omega
def zR (s:ByteArray) (c r a1 b1 a2 b2 a3 b3 a4 b4:Int):Bool:=zC s && (inB c 1 4 && (inB r 1 4 && (z0H a1 b1 && (z0H a2 b2 && (z0H a3 b3 && z0H a4 b4)))))
theorem Hid.mk {p:Prop} (h:p):Hid p:=h
def z1G (k n:Int):Bool:=decide (k=0/\n=0\/k=1/\0<=n/\n<=60\/k=2/\1<=n/\n<=100)
theorem zfr (n:Int):z1G 0 n=inB n 0 0:=by rw [Bool.eq_iff_iff];simp [z1G,inB];omega
theorem zeH (n:Int):z1G 0 n=(n == 0):=by rw [Bool.eq_iff_iff];simp [z1G]
theorem zcr (n:Int):z1G 1 n=inB n 0 60:=by rw [Bool.eq_iff_iff];simp [z1G,inB]
theorem zcs (n:Int):z1G 2 n=inB n 1 100:=by rw [Bool.eq_iff_iff];simp [z1G,inB]
theorem zb4 {k:Int} (n:Int) (h0:k ≠ 0) (h1:k ≠ 1) (h2:k ≠ 2):z1G k n=false:=by simp [z1G];omega
def cB (x:C):Bool:=zR x.s x.c x.r x.a1 x.b1 x.a2 x.b2 x.a3 x.b3 x.a4 x.b4
def z0Y (r:R):Bool:=decide (r.cells.length<=5) && r.cells.all cB
def z1v (ps:List (Int × Int)):Bool:=decide (ps.length<=8) && ps.all (fun p=>z1G p.1 p.2)
def z1I (n:Nat) (hd ft:Int):Bool:=inB hd 0 n && inB ft 0 (n - hd)
theorem z3C {α:Type} (d:α) (p:α->Bool) (l:List α) (h:∀ j,j < l.length->p (l.getD j d)=true):l.all p=true:=by
 rw [List.all_eq_true];intro x hx;obtain ⟨j,hj,rfl⟩:=List.getElem_of_mem hx;have e:l.getD j d=l[j]:=(by simp [List.getD,hj]);rw [<-e];exact h j hj
theorem z37 {α:Type} (d:α) (p:α->Bool) (l:List α) (k:Nat) (hk:k < l.length) (h:p (l.getD k d)=false):l.all p=false:=by
 have e:l.getD k d=l[k]:=(by simp [List.getD,hk]);rw [e] at h
 cases hb:l.all p with
 | false=>rfl
 | true=>rw [List.all_eq_true.1 hb _ (List.getElem_mem hk)] at h;cases h
theorem z38 {α:Type} {d:α} {p:α->Bool} {l:List α} {k:Nat} (h:∀ j,j < k->p (l.getD j d)=true) (hk:p (l.getD k d)=true):∀ j,j < k+1->p (l.getD j d)=true:=by
 intro j hj
 rcases Nat.lt_or_eq_of_le (Nat.lt_succ_iff.1 hj) with h1 | h1
 ·exact h j h1
 ·rw [h1];exact hk
def zq (t:T):Bool:=inB t.rows.length 1 8 && (z1I t.rows.length t.head t.foot && (inB t.gap 0 3 && (z1v t.cols && t.rows.all z0Y)))
theorem z1N (w:World) (q:Obj):(w.alloc q).heap[w.heap.size]?=some q:=by show (w.heap.push q)[w.heap.size]?=_;simp
theorem zy {w:World} {g:Nat} {x0 x1 x2 x3 x4:Value} {t:TypeId} (h:w.heap[g]?=some (.cells #[x0,x1,x2,x3,x4] t)) :
  w.cell? ⟨g,0,none⟩=some x0/\w.cell? ⟨g,1,none⟩=some x1/\w.cell? ⟨g,2,none⟩=some x2/\w.cell? ⟨g,3,none⟩=some x3/\w.cell? ⟨g,4,none⟩=some x4 :=
 ⟨Joins.cell_of_block h 0,Joins.cell_of_block h 1,Joins.cell_of_block h 2,Joins.cell_of_block h 3,Joins.cell_of_block h 4⟩
def z1R (t:T) (q:Int):Int:=if zq t=true/\inB q 0 (t.rows.length - 1)=true then (if q < t.head then 0 else if t.rows.length - t.foot<=q then 2 else 1) else -1
theorem z7m {a b:Int} (h:a=b):Ending.returned (int i64 a)=.returned (int i64 b):=by rw [h]
theorem z58 {t:T} (h:zq t=true):(1<=t.rows.length/\t.rows.length<=8)/\(0<=t.head/\t.head<=t.rows.length)/\0<=t.foot/\t.foot<=t.rows.length:=by
 simp only [zq,z1I,Bool.and_eq_true] at h;have h1:(1:Int)<=t.rows.length/\(t.rows.length:Int)<=8:=of_decide_eq_true h.1;have h2:0<=t.head/\t.head<=t.rows.length:=of_decide_eq_true h.2.1.1;have h3:0<=t.foot/\t.foot<=t.rows.length - t.head:=of_decide_eq_true h.2.1.2;omega
end
end Go.Proofs.YtggmjiddadjilalGreat
