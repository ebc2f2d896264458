/-
  PROVED HERE: small laws on blocks of cells in memory, for the other texts of this claim. Also: 8 more texts of the same proof.
-/
import Derived.Test.YtggmjiddadjilaeGreatC1
import Derived.Test.YtggmjiddadjilaeGreatC6
import Derived.Laws.MakeOwn
import Derived.OwnWalk
import Derived.Lib.SmallJoins
import Derived.Test.YtggmjiddadjilaeGreatRows
import Derived.WalkKit
import Derived.ProofKit
import Derived.WalkLawsBesides
import Derived.WalkSpells
import Derived.Below
import Derived.Deep.QuietTactic
import Derived.BigQuiet
import Derived.Laws.BitsAllLaws
import Derived.RegionTactic
import Derived.OpenShut
namespace Go.Proofs.YtggmjiddadjilaeGreat
open Go.RowKit
theorem sizeSet (w:World) (p:Addr) (v:Value):(w.setCell p v).heap.size=w.heap.size:=by simp [World.setCell]
theorem newestB (w:World) (q:Obj):(w.alloc q).heap[w.heap.size]?=some q:=by show (w.heap.push q)[w.heap.size]?=_;simp
theorem cellB {w:World} {g p:Nat} {arr:Array Value} {t:TypeId} (h:w.heap[g]?=some (.cells arr t)):w.cell? ⟨g,p,none⟩=arr[p]?:=Joins.cell_of_block h p
theorem someB {w:World} {g p:Nat} {arr:Array Value} {t:TypeId} (h:w.heap[g]?=some (.cells arr t)) (hp:p < arr.size):∃ v,w.cell? ⟨g,p,none⟩=some v:=⟨_,(cellB h).trans (Array.getElem?_eq_getElem hp)⟩
theorem freeB {w:World} {g p:Nat} {arr:Array Value} {t:TypeId} (h:w.heap[g]?=some (.cells arr t)):w.frozen? ⟨g,p,none⟩=false:=Joins.unfrozen_of_block h p
theorem setB {w:World} {g p:Nat} {arr:Array Value} {t:TypeId} (h:w.heap[g]?=some (.cells arr t)) (v:Value):(w.setCell ⟨g,p,none⟩ v).heap[g]?=some (.cells (arr.setIfInBounds p v) t):=Joins.block_setCell h v
def leftOf (n:Int) (m:Nat):Int:=if (m:Int)≤n then n - m else -1
theorem retI64 {a b:Int} (h:a=b):Ending.returned (.int .i64 a)=.returned (.int .i64 b):=by rw [h]
def inB (n lo hi:Int):Bool:=decide (lo≤n∧n≤hi)
theorem retB {a b:Bool} (h:a=b):Ending.returned (.bool a)=.returned (.bool b):=by rw [h]
theorem inB_true {n lo hi:Int} (h1:lo≤n) (h2:n≤hi):inB n lo hi=true:=by simp [inB,h1,h2]
theorem inB_false {n lo hi:Int} (h:¬ (lo≤n∧n≤hi)):inB n lo hi=false:=by simp only [inB,h,decide_false]
theorem within_any (n lo hi:Int) (w:World) :
  Calls Tryz.prog 54 #[.int .i64 n,.int .i64 lo,.int .i64 hi] w fun e w'=>e=.returned (.bool (inB n lo hi))∧w'=w:=by
 by_cases h1:lo≤n
 ·by_cases h2:n≤hi
  ·have HB:Hid (inB n lo hi=true):=inB_true h1 h2
   go_enter Tryz.func54,Tryz.ntmps54
   go_wp2
   go_ret
   exact ⟨retB HB.out.symm,rfl⟩
  ·have HB:Hid (inB n lo hi=false):=inB_false (by omega)
   go_enter Tryz.func54,Tryz.ntmps54
   go_wp2
   go_ret
   exact ⟨retB HB.out.symm,rfl⟩
 ·have HB:Hid (inB n lo hi=false):=inB_false (by omega)
  go_enter Tryz.func54,Tryz.ntmps54
  go_wp2
  go_ret
  exact ⟨retB HB.out.symm,rfl⟩
theorem l1In_any (n lo hi:Int) (w:World) :
  Calls Tryz.prog 36 #[.int .i64 n,.int .i64 lo,.int .i64 hi] w fun e w'=>e=.returned (.bool (inB n lo hi))∧w'=w:=by
 by_cases h1:lo≤n
 ·by_cases h2:n≤hi
  ·have HB:Hid (inB n lo hi=true):=inB_true h1 h2
   go_enter Tryz.func36,Tryz.ntmps36
   go_wp2
   go_ret
   exact ⟨retB HB.out.symm,rfl⟩
  ·have HB:Hid (inB n lo hi=false):=inB_false (by omega)
   go_enter Tryz.func36,Tryz.ntmps36
   go_wp2
   go_ret
   exact ⟨retB HB.out.symm,rfl⟩
 ·have HB:Hid (inB n lo hi=false):=inB_false (by omega)
  go_enter Tryz.func36,Tryz.ntmps36
  go_wp2
  go_ret
  exact ⟨retB HB.out.symm,rfl⟩
structure Bk (r:Nat) (w w':World):Prop where
 os:w'.os=w.os
 tape:w'.tape=w.tape
 output:w'.output=w.output
 size:w.heap.size≤w'.heap.size
 block:∀ k,k < w.heap.size→k ≠ r→w'.heap[k]?=w.heap[k]?
theorem Bk.refl (r:Nat) (w:World):Bk r w w:=⟨rfl,rfl,rfl,Nat.le_refl _,fun _ _ _=>rfl⟩
theorem Bk.trans {r:Nat} {a b c:World} (h:Bk r a b) (k:Bk r b c):Bk r a c :=
 ⟨k.os.trans h.os,k.tape.trans h.tape,k.output.trans h.output,Nat.le_trans h.size k.size,fun i hi hr=>(k.block i (Nat.lt_of_lt_of_le hi h.size) hr).trans (h.block i hi hr)⟩
theorem Bk.alloc {r:Nat} {a w:World} (h:Bk r a w) (o:Obj):Bk r a (w.alloc o) :=
 h.trans ⟨rfl,rfl,rfl,by simp,fun k hk _=>Below.heap_alloc _ _ _ hk⟩
theorem Bk.drewN {r:Nat} {a w:World} (h:Bk r a w) (n:Nat):Bk r a (w.drewN n):=⟨h.os,h.tape,h.output,h.size,h.block⟩
theorem Bk.drew {r:Nat} {a w:World} (h:Bk r a w):Bk r a w.drew:=⟨h.os,h.tape,h.output,h.size,h.block⟩
theorem Bk.set {r:Nat} {a w:World} (h:Bk r a w) {p:Addr} (hp:p.block=r∨a.heap.size≤p.block) (u:Value):Bk r a (w.setCell p u) :=
 ⟨h.os,h.tape,h.output,by simpa [World.setCell] using h.size,fun k hk hr=>(Below.heap_setCell _ _ _ _ (by omega)).trans (h.block k hk hr)⟩
theorem Bk.below {r:Nat} {w w':World} (h:Bk r w w') {n:Nat} (hn:n≤w.heap.size) (hr:n≤r):Below n w w':=⟨h.os,h.tape,h.output,h.size,fun k hk=>h.block k (by omega) (by omega)⟩
theorem Bk.of_below {r:Nat} {w w':World} (h:Below w.heap.size w w'):Bk r w w':=⟨h.os,h.tape,h.output,h.size,fun k hk _=>h.block k hk⟩
theorem Bk.cell {r:Nat} {w w':World} (h:Bk r w w') {p:Addr} (hp:p.block < w.heap.size) (hr:p.block ≠ r):w'.cell? p=w.cell? p:=World.cell?_of_block (w:=w) (h.block p.block hp hr)
theorem Bk.frozen {r:Nat} {w w':World} (h:Bk r w w') {p:Addr} (hp:p.block < w.heap.size) (hr:p.block ≠ r):w'.frozen? p=w.frozen? p:=World.frozen?_of_block (w:=w) (h.block p.block hp hr)
theorem Bk.cells {r:Nat} {w w':World} (h:Bk r w w'):(∀ b o,b < w.heap.size→b ≠ r→w'.cell? ⟨b,o,none⟩=w.cell? ⟨b,o,none⟩)∧(∀ b o,b < w.heap.size→b ≠ r→w'.frozen? ⟨b,o,none⟩=w.frozen? ⟨b,o,none⟩) :=
 ⟨fun b o h1 h2=>h.cell (p:=⟨b,o,none⟩) h1 h2,fun b o h1 h2=>h.frozen (p:=⟨b,o,none⟩) h1 h2⟩
def Rd (w:World) (r B:Nat):Prop :=
 ∃ (a:Option Addr) (len cap p:Nat),p≤B∧len≤2000∧w.heap[r]?=some (.cells #[.slice a len cap,.int .i64 p] 95) ∧
  ∀ i,i < len→∃ (b off:Nat) (z:Int),a=some ⟨b,off,none⟩∧b < r∧w.cell? ⟨b,off+i,none⟩=some (.int .u8 z)∧0≤z∧z≤255
theorem Rd.lt {w:World} {r B:Nat} (h:Rd w r B):r < w.heap.size:=by
 obtain ⟨a,len,cap,p,_,_,hb,_⟩:=h
 exact (bL hb)
theorem Rd.mono {w:World} {r B B':Nat} (h:Rd w r B) (hB:B≤B'):Rd w r B':=by
 obtain ⟨a,len,cap,p,h1,h⟩:=h
 exact ⟨a,len,cap,p,by omega,h⟩
theorem Rd.kept {w w':World} {r B:Nat} (h:Rd w r B) (hb:Below w.heap.size w w'):Rd w' r B:=by
 have hlt:=h.lt
 obtain ⟨a,len,cap,p,h1,h2,hk,hc⟩:=h
 refine ⟨a,len,cap,p,h1,h2,(hb.block r hlt).trans hk,fun i hi=>?_⟩
 obtain ⟨b,off,z,e,l,c,z0,z1⟩:=hc i hi
 exact ⟨b,off,z,e,l,(hb.cell (p:=⟨b,off+i,none⟩) (Nat.lt_trans l hlt)).trans c,z0,z1⟩
theorem Rd.keep {w w':World} {r B:Nat} (h:Rd w r B) (hk:∀ k,k≤r→w'.heap[k]?=w.heap[k]?):Rd w' r B:=by
 obtain ⟨a,len,cap,p,h1,h2,hb,hc⟩:=h
 refine ⟨a,len,cap,p,h1,h2,(hk r (Nat.le_refl _)).trans hb,fun i hi=>?_⟩
 obtain ⟨b,off,z,e,l,c,z0,z1⟩:=hc i hi
 exact ⟨b,off,z,e,l,(World.cell?_of_block (w:=w) (a:=⟨b,off+i,none⟩) (hk b (Nat.le_of_lt l))).trans c,z0,z1⟩
theorem Rd.alloc {w:World} {r B:Nat} (h:Rd w r B) (o:Obj):Rd (w.alloc o) r B:=h.kept (k_alloc (Below.refl _ _) _)
theorem Rd.set {w:World} {r B:Nat} (h:Rd w r B) {p:Addr} (hp:r < p.block) (u:Value):Rd (w.setCell p u) r B:=h.keep (fun _ hk=>Below.heap_setCell _ _ _ _ (by omega))
theorem Rd.drew {w:World} {r B:Nat} (h:Rd w r B):Rd w.drew r B:=h.kept (k_drew (Below.refl _ _))
def InR (n k:Int):Prop:=1≤n→0≤k∧k < n
theorem i64_xor_nonneg (a b:Int) (h1:0≤a) (h2:a < 4611686018427387904) (h3:0≤b) (h4:b < 4611686018427387904):0≤bits .xor .i64 a b:=by
 obtain ⟨A,rfl⟩:=Int.eq_ofNat_of_zero_le h1
 obtain ⟨B,rfl⟩:=Int.eq_ofNat_of_zero_le h3
 have hx:A ^^^ B < 2 ^ 62:=Nat.xor_lt_two_pow (by omega) (by omega)
 have e:bits .xor .i64 (A:Int) (B:Int)=IntKind.i64.wrap ((BitVec.ofInt 64 (A:Int) ^^^ BitVec.ofInt 64 (B:Int)).toNat:Int):=rfl
 rw [e,BitVec.toNat_xor,ofInt_u64 A (by omega),ofInt_u64 B (by omega)]
 simp [IntKind.wrap,IntKind.bits,IntKind.signed]
 omega
theorem wrap64_in {x:Int} (h1:0≤x) (h2:x < 4611686018427387904):wrap64 x=x:=by unfold wrap64;omega
theorem pick_math (n z y:Int) (p len:Nat) (hn:1≤n) (hp:p≤1000000) (z0:0≤z) (z1:z≤255) (y0:0≤y) (y1:y≤255) :
  InR n ((bits BinOp.xor IntKind.i64 (wrap64 (z * 131+y * 1117+(p:Int) * 29+wrap64 (wrap64 ((p:Int) / (len:Int)) * 53)))
   (wrap64 ((wrap64 (z * 131+y * 1117+(p:Int) * 29+wrap64 (wrap64 ((p:Int) / (len:Int)) * 53))).tdiv 64))).tmod n):=by
 have q0:0≤(p:Int) / (len:Int):=Int.ediv_nonneg (by omega) (by omega)
 have q1:(p:Int) / (len:Int)≤p:=Int.ediv_le_self _ (by omega)
 generalize (p:Int) / (len:Int)=q at q0 q1 ⊢
 rw [wrap64_in q0 (by omega),wrap64_in (x:=q * 53) (by omega) (by omega),wrap64_in (x:=z * 131+y * 1117+(p:Int) * 29+q * 53) (by omega) (by omega)]
 have X0:0≤z * 131+y * 1117+(p:Int) * 29+q * 53:=by omega
 have X1:z * 131+y * 1117+(p:Int) * 29+q * 53 < 4611686018427387904:=by omega
 generalize z * 131+y * 1117+(p:Int) * 29+q * 53=X at X0 X1 ⊢
 rw [Int.tdiv_eq_ediv_of_nonneg X0,wrap64_in (x:=X / 64) (by omega) (by omega)]
 have hx:=i64_xor_nonneg X (X / 64) X0 X1 (by omega) (by omega)
 generalize bits BinOp.xor IntKind.i64 X (X / 64)=Y at hx ⊢
 intro _
 rw [Int.tmod_eq_emod_of_nonneg hx]
 exact ⟨Int.emod_nonneg _ (by omega),Int.emod_lt_of_pos _ (by omega)⟩
theorem rd_next {w:World} {r B:Nat} {a:Option Addr} {len cap p:Nat} (hp:p≤B) (hl:len≤2000) (hk:w.heap[r]?=some (.cells #[.slice a len cap,.int .i64 p] 95))
  (hc:∀ i,i < len→∃ (b off:Nat) (z:Int),a=some ⟨b,off,none⟩∧b < r∧w.cell? ⟨b,off+i,none⟩=some (.int .u8 z)∧0≤z∧z≤255) :
  Rd (w.setCell ⟨r,1,none⟩ (.int .i64 ((p:Int)+1))) r (B+1)∧Bk r w (w.setCell ⟨r,1,none⟩ (.int .i64 ((p:Int)+1))):=by
 have bk:Bk r w (w.setCell ⟨r,1,none⟩ (.int .i64 ((p:Int)+1))):=(Bk.refl r w).set (Or.inl rfl) _
 refine ⟨⟨a,len,cap,p+1,by omega,hl,?_,fun i hi=>?_⟩,bk⟩
 ·rw [Joins.block_setCell hk]
  simp
 ·obtain ⟨b,off,z,e,l,c,z0,z1⟩:=hc i hi
  exact ⟨b,off,z,e,l,(bk.cell (p:=⟨b,off+i,none⟩) (Nat.lt_trans l (bL hk)) (Nat.ne_of_lt l)).trans c,z0,z1⟩
theorem Rd.draws {w:World} {r B:Nat} (h:Rd w r B) (n:Nat):Rd (w.drewN n) r B:=h.kept (k_drewN (Below.refl _ _) n)
set_option maxRecDepth 100000 in
set_option maxHeartbeats 1000000 in
theorem pick_any (r B:Nat) (n:Int) (w:World) (h:Rd w r B) (hB:B≤1000000) :
  Calls Tryz.prog 61 #[.pointer (some ⟨r,0,none⟩),.int .i64 n] w fun e w'=>∃ k:Int,e=.returned (.int .i64 k)∧InR n k∧Rd w' r (B+1)∧Bk r w w':=by
 have hlt:=h.lt
 obtain ⟨a,len,cap,p,hp,hl,hk,hc⟩:=h
 have c0:w.cell? ⟨r,0,none⟩=some (.slice a len cap):=by simp [World.cell?,hk]
 have c1:w.cell? ⟨r,1,none⟩=some (.int .i64 p):=by simp [World.cell?,hk]
 have f1:w.frozen? ⟨r,1,none⟩=false:=by simp [World.frozen?,hk]
 obtain ⟨N1,N2⟩:=rd_next hp hl hk hc
 have HN1:Hid (Rd (w.setCell ⟨r,1,none⟩ (.int .i64 ((p:Int)+1))) r (B+1)):=N1
 have HN2:Hid (Bk r w (w.setCell ⟨r,1,none⟩ (.int .i64 ((p:Int)+1)))):=N2
 clear N1 N2 hk
 by_cases hn:n < 1
 ·as_aux_lemma =>
   clear hc
   go_enter Tryz.func61,Tryz.ntmps61
   go_wp2
   go_ret
   exact ⟨0,rfl,fun h=>absurd h (by omega),HN1.out,HN2.out⟩
 by_cases hz:len=0
 ·as_aux_lemma =>
   have hz':((len:Int) == 0)=true:=beq_iff_eq.2 (by omega)
   clear hc hz
   go_enter Tryz.func61,Tryz.ntmps61
   go_wp2
   go_ret
   exact ⟨0,rfl,fun h=>by omega,HN1.out,HN2.out⟩
 have hz':((len:Int) == 0)=false:=beq_eq_false_iff_ne.2 (by omega)
 have hn1:1≤n:=by omega
 by_cases hpl:p < len
 ·as_aux_lemma =>
   obtain ⟨b,off,z,rfl,hbr0,hcz,hz0,hz1⟩:=hc p hpl
   have hbr:b ≠ r:=by omega
   have hbl:b < w.heap.size:=by omega
   have c2:∀ v,(w.setCell ⟨r,1,none⟩ v).cell? ⟨b,off+p,none⟩=some (.int .u8 z):=fun v=>((Bk.refl r w).set (p:=⟨r,1,none⟩) (Or.inl rfl) v).cell (p:=⟨b,off+p,none⟩) hbl hbr |>.trans hcz
   clear hc hcz hz hbl
   go_enter Tryz.func61,Tryz.ntmps61
   go_wp2
   go_ret
   exact ⟨_,rfl,fun _=>⟨Int.emod_nonneg _ (by omega),Int.emod_lt_of_pos _ (by omega)⟩,HN1.out,HN2.out⟩
 ·as_aux_lemma =>
   have hm1:p % len < len:=Nat.mod_lt _ (by omega)
   have hm2:(p * 7+3) % len < len:=Nat.mod_lt _ (by omega)
   obtain ⟨b,off,z,rfl,hbr0,hcz,hz0,hz1⟩:=hc _ hm1
   have hbr:b ≠ r:=by omega
   have hbl:b < w.heap.size:=by omega
   obtain ⟨b',off',y,e',hbr',hcy,hy0,hy1⟩:=hc _ hm2
   simp only [Option.some.injEq,Addr.mk.injEq] at e'
   obtain ⟨rfl,rfl,_⟩:=e'
   have c2:∀ v,(w.setCell ⟨r,1,none⟩ v).cell? ⟨b,off+p % len,none⟩=some (.int .u8 z):=fun v=>((Bk.refl r w).set (p:=⟨r,1,none⟩) (Or.inl rfl) v).cell (p:=⟨b,off+p % len,none⟩) hbl hbr |>.trans hcz
   have c3:∀ v,(w.setCell ⟨r,1,none⟩ v).cell? ⟨b,off+(p * 7+3) % len,none⟩=some (.int .u8 y):=fun v=>((Bk.refl r w).set (p:=⟨r,1,none⟩) (Or.inl rfl) v).cell (p:=⟨b,off+(p * 7+3) % len,none⟩) hbl hbr |>.trans hcy
   have i1:0≤((p:Int) * 7+3) % (len:Int):=Int.emod_nonneg _ (by omega)
   have i2:((p:Int) * 7+3) % (len:Int) < (len:Int):=Int.emod_lt_of_pos _ (by omega)
   have i3:(((p:Int) * 7+3) % (len:Int)).toNat=(p * 7+3) % len:=by
    have:((p:Int) * 7+3) % (len:Int)=(((p * 7+3) % len:Nat):Int):=by simp
    rw [this,Int.toNat_natCast]
   clear hc hcz hcy hz hbl hbr'
   go_enter Tryz.func61,Tryz.ntmps61
   go_wp2
   refine wp_region_quiet_lit (by kernel_rfl) (by kernel_rfl) ?_
   repeat (go_big_quiet_step (fail))
   refine wpQuiet_nil ?_
   intro _ hw'
   obtain ⟨nq,hw''⟩:=hw'
   subst hw''
   go_wp2
   go_ret
   refine ⟨_,rfl,?_,HN1.out.draws _,HN2.out.drewN _⟩
   exact pick_math n z y p len hn1 (by omega) hz0 hz1 hy0 hy1
def IsCode (w:World) (a:Option Addr) (len cap:Nat):Prop :=
 len≤cap∧cap≤maxLen∧∀ i,i < len→∃ (b off:Nat) (z:Int),a=some ⟨b,off,none⟩∧b < w.heap.size∧w.cell? ⟨b,off+i,none⟩=some (.int .u8 z)∧0≤z∧z≤255
theorem isCode_nil (w:World):IsCode w none 0 0:=⟨Nat.le_refl _,Nat.zero_le _,fun _ hi=>absurd hi (Nat.not_lt_zero _)⟩
theorem block_of_cell {w:World} {b o:Nat} {v:Value} (h:w.cell? ⟨b,o,none⟩=some v):b < w.heap.size:=by
 rcases Nat.lt_or_ge b w.heap.size with h1 | h1
 ·exact h1
 ·simp [World.cell?,Array.getElem?_eq_none h1] at h
theorem getD_mem {zs:List Int} {i:Nat} (h:i < zs.length):zs.getD i 0 ∈ zs:=by
 have e:zs.getD i 0=zs[i]:=by simp [List.getD,h]
 rw [e];exact List.getElem_mem _
theorem isCode_of {w:World} {x:Addr} {len cap:Nat} {zs:List Int} (hl:len≤cap) (hm:cap≤maxLen) (hz:zs.length=cap) (hcell:∀ i,i < zs.length→w.cell? (x.add i)=some (.int .u8 (zs.getD i 0)))
  (hw:∀ n ∈ zs,(Lit.int .u8 n).wf=true):IsCode w (some x) len cap:=by
 refine ⟨hl,hm,fun i hi=>?_⟩
 obtain ⟨b,off,rfl,hc⟩:=ints_at hcell (by omega)
 have hci:=hc i (by omega)
 have hb:=bounds_u8 (hw _ (getD_mem (zs:=zs) (i:=i) (by omega)))
 exact ⟨b,off,_,rfl,block_of_cell hci,hci,hb.1,hb.2⟩
theorem rd_open {w:World} {a:Option Addr} {len cap:Nat} (L:Nat) (hL:L≤len) (h2:L≤2000)
  (hc:∀ i,i < len→∃ (b off:Nat) (z:Int),a=some ⟨b,off,none⟩∧b < w.heap.size∧w.cell? ⟨b,off+i,none⟩=some (.int .u8 z)∧0≤z∧z≤255) :
  Rd (w.alloc (.cells #[.slice a L cap,.int .i64 0] 95)) w.heap.size 0:=by
 refine ⟨a,L,cap,0,Nat.le_refl _,h2,?_,fun i hi=>?_⟩
 ·show (w.heap.push _)[w.heap.size]?=_
  simp
 ·obtain ⟨b,off,z,e,l,c,z0,z1⟩:=hc i (by omega)
  refine ⟨b,off,z,e,l,?_,z0,z1⟩
  exact ((k_alloc (Below.refl w.heap.size w) _).cell (p:=⟨b,off+i,none⟩) l).trans c
set_option maxRecDepth 100000 in
set_option maxHeartbeats 400000 in
theorem open_any (a:Option Addr) (len cap:Nat) (w:World) (h:IsCode w a len cap) :
  Calls Tryz.prog 30 #[.slice a len cap] w fun e w'=>e=.returned (.pointer (some ⟨w.heap.size,0,none⟩))∧Rd w' w.heap.size 0∧Below w.heap.size w w':=by
 obtain ⟨h1,h2,hc⟩:=h
 unfold maxLen at h2
 by_cases hl:(2000:Int) < (len:Int)
 ·go_enter Tryz.func30,Tryz.ntmps30
  go_wp2
  go_ret
  exact ⟨rfl,rd_open 2000 (by omega) (by omega) hc,k_alloc (Below.refl _ _) _⟩
 ·go_enter Tryz.func30,Tryz.ntmps30
  go_wp2
  go_ret
  exact ⟨rfl,rd_open len (by omega) (by omega) hc,k_alloc (Below.refl _ _) _⟩
structure C where
 s:ByteArray
 c:Int
 r:Int
 a1:Int
 b1:Int
 a2:Int
 b2:Int
 a3:Int
 b3:Int
 a4:Int
 b4:Int
structure R where
 cells:List C
 whole:Bool
structure T where
 cols:List (Int × Int)
 head:Int
 foot:Int
 rows:List R
 gap:Int
def dC:C:=⟨ByteArray.empty,0,0,0,0,0,0,0,0,0,0⟩
def dR:R:=⟨[],false⟩
def CellIs (w:World) (b o:Nat) (x:C):Prop :=
 w.cell? ⟨b,o,none⟩=some (.string x.s)∧w.cell? ⟨b,o+1,none⟩=some (.int .i64 x.c)∧w.cell? ⟨b,o+2,none⟩=some (.int .i64 x.r) ∧
 w.cell? ⟨b,o+3,none⟩=some (.int .i64 x.a1)∧w.cell? ⟨b,o+4,none⟩=some (.int .i64 x.b1)∧w.cell? ⟨b,o+5,none⟩=some (.int .i64 x.a2)∧w.cell? ⟨b,o+6,none⟩=some (.int .i64 x.b2) ∧
 w.cell? ⟨b,o+7,none⟩=some (.int .i64 x.a3)∧w.cell? ⟨b,o+8,none⟩=some (.int .i64 x.b3)∧w.cell? ⟨b,o+9,none⟩=some (.int .i64 x.a4)∧w.cell? ⟨b,o+10,none⟩=some (.int .i64 x.b4)
def At (w:World) (z:Nat) (v:Value) (n sz:Nat) (E:Nat→Nat→Nat→Prop):Prop :=
 ∃ (a:Option Addr) (cap:Nat),v=.slice a n cap∧n≤cap∧cap≤maxLen∧∀ i,i < n→∃ b off,a=some ⟨b,off,none⟩∧b < w.heap.size∧z≤b∧E i b (off+i * sz)
def CellsAt (w:World) (z:Nat) (v:Value) (cs:List C):Prop:=At w z v cs.length 11 (fun i b o=>CellIs w b o (cs.getD i dC)∧(cs.getD i dC).s.size≤maxLen)
def ColsAt (w:World) (z:Nat) (v:Value) (ps:List (Int × Int)):Prop:=At w z v ps.length 2 (fun i b o=>w.cell? ⟨b,o,none⟩=some (.int .i64 (ps.getD i (0,0)).1)∧w.cell? ⟨b,o+1,none⟩=some (.int .i64 (ps.getD i (0,0)).2))
def RowsAt (w:World) (z:Nat) (v:Value) (rs:List R):Prop:=At w z v rs.length 2 (fun i b o=>∃ u,w.cell? ⟨b,o,none⟩=some u∧w.cell? ⟨b,o+1,none⟩=some (.bool (rs.getD i dR).whole)∧CellsAt w z u (rs.getD i dR).cells)
def TblAt (w:World) (z:Nat) (v:Value) (t:T):Prop:=∃ vc vr,v=.agg #[vc,.int .i64 t.head,.int .i64 t.foot,vr,.int .i64 t.gap]∧ColsAt w z vc t.cols∧RowsAt w z vr t.rows
structure Since (z:Nat) (w w':World):Prop where
 size:w.heap.size≤w'.heap.size
 block:∀ k,z≤k→k < w.heap.size→w'.heap[k]?=w.heap[k]?
theorem Since.of_below {z:Nat} {w w':World} (h:Below w.heap.size w w'):Since z w w':=⟨h.size,fun k _ hk=>h.block k hk⟩
theorem Since.refl (z:Nat) (w:World):Since z w w:=⟨Nat.le_refl _,fun _ _ _=>rfl⟩
theorem Since.trans {z:Nat} {a b c:World} (h:Since z a b) (k:Since z b c):Since z a c:=⟨Nat.le_trans h.size k.size,fun i h1 h2=>(k.block i h1 (Nat.lt_of_lt_of_le h2 h.size)).trans (h.block i h1 h2)⟩
theorem Since.set {z:Nat} {a w:World} (h:Since z a w) {p:Addr} (hp:p.block < z) (v:Value):Since z a (w.setCell p v) :=
 ⟨by simpa [World.setCell] using h.size,fun k h1 h2=>(Below.heap_setCell _ _ _ _ (by omega)).trans (h.block k h1 h2)⟩
theorem Since.alloc {z:Nat} {a w:World} (h:Since z a w) (o:Obj):Since z a (w.alloc o):=h.trans (Since.of_below (k_alloc (Below.refl _ _) _))
theorem Since.cell {z:Nat} {w w':World} (h:Since z w w') {b:Nat} (h1:z≤b) (h2:b < w.heap.size) (p:Nat):w'.cell? ⟨b,p,none⟩=w.cell? ⟨b,p,none⟩:=World.cell?_of_block (w:=w) (a:=⟨b,p,none⟩) (h.block b h1 h2)
theorem At.mono {w w':World} {z z':Nat} {v:Value} {n sz:Nat} {E E':Nat→Nat→Nat→Prop} (h:At w z v n sz E) (hz:w.heap.size≤w'.heap.size) (hzz:z'≤z) (hE:∀ i b o,i < n→b < w.heap.size→z≤b→E i b o→E' i b o):At w' z' v n sz E':=by
 obtain ⟨a,cap,e,h1,h2,hx⟩:=h
 refine ⟨a,cap,e,h1,h2,fun i hi=>?_⟩
 obtain ⟨b,off,ea,hb,hzb,he⟩:=hx i hi
 exact ⟨b,off,ea,Nat.lt_of_lt_of_le hb hz,Nat.le_trans hzz hzb,hE i b _ hi hb hzb he⟩
theorem CellIs.since {w w':World} {z b o:Nat} {x:C} (h:CellIs w b o x) (hb:b < w.heap.size) (hz:z≤b) (k:Since z w w'):CellIs w' b o x:=by
 unfold CellIs at h ⊢
 simp only [k.cell hz hb]
 exact h
theorem CellsAt.since {w w':World} {z:Nat} {v:Value} {cs:List C} (h:CellsAt w z v cs) (k:Since z w w'):CellsAt w' z v cs :=
 At.mono h k.size (Nat.le_refl _) (fun _ _ _ _ hb hz he=>⟨he.1.since hb hz k,he.2⟩)
theorem ColsAt.since {w w':World} {z:Nat} {v:Value} {cs:List (Int × Int)} (h:ColsAt w z v cs) (k:Since z w w'):ColsAt w' z v cs :=
 At.mono h k.size (Nat.le_refl _) (fun _ _ _ _ hb hz he=>⟨(k.cell hz hb _).trans he.1,(k.cell hz hb _).trans he.2⟩)
theorem RowsAt.since {w w':World} {z:Nat} {v:Value} {rs:List R} (h:RowsAt w z v rs) (k:Since z w w'):RowsAt w' z v rs :=
 At.mono h k.size (Nat.le_refl _) (fun _ _ _ _ hb hz ⟨u,h1,h2,h3⟩=>⟨u,(k.cell hz hb _).trans h1,(k.cell hz hb _).trans h2,h3.since k⟩)
theorem TblAt.since {w w':World} {z:Nat} {v:Value} {t:T} (h:TblAt w z v t) (k:Since z w w'):TblAt w' z v t:=by
 obtain ⟨vc,vr,e,h1,h2⟩:=h
 exact ⟨vc,vr,e,h1.since k,h2.since k⟩
theorem CellsAt.kept {w w':World} {z:Nat} {v:Value} {cs:List C} (h:CellsAt w z v cs) (k:Below w.heap.size w w'):CellsAt w' z v cs:=h.since (.of_below k)
theorem ColsAt.kept {w w':World} {z:Nat} {v:Value} {cs:List (Int × Int)} (h:ColsAt w z v cs) (k:Below w.heap.size w w'):ColsAt w' z v cs:=h.since (.of_below k)
theorem RowsAt.kept {w w':World} {z:Nat} {v:Value} {rs:List R} (h:RowsAt w z v rs) (k:Below w.heap.size w w'):RowsAt w' z v rs:=h.since (.of_below k)
theorem TblAt.kept {w w':World} {z:Nat} {v:Value} {t:T} (h:TblAt w z v t) (k:Below w.heap.size w w'):TblAt w' z v t:=h.since (.of_below k)
theorem CellsAt.base {w:World} {z z':Nat} {v:Value} {cs:List C} (h:CellsAt w z v cs) (hz:z'≤z):CellsAt w z' v cs:=At.mono h (Nat.le_refl _) hz (fun _ _ _ _ _ _ he=>he)
theorem ColsAt.base {w:World} {z z':Nat} {v:Value} {cs:List (Int × Int)} (h:ColsAt w z v cs) (hz:z'≤z):ColsAt w z' v cs:=At.mono h (Nat.le_refl _) hz (fun _ _ _ _ _ _ he=>he)
theorem RowsAt.base {w:World} {z z':Nat} {v:Value} {rs:List R} (h:RowsAt w z v rs) (hz:z'≤z):RowsAt w z' v rs:=At.mono h (Nat.le_refl _) hz (fun _ _ _ _ _ _ ⟨u,h1,h2,h3⟩=>⟨u,h1,h2,h3.base hz⟩)
theorem At.get {w:World} {z:Nat} {v:Value} {n sz:Nat} {E:Nat→Nat→Nat→Prop} (h:At w z v n sz E) {i:Nat} (hi:i < n):∃ b off cap,v=.slice (some ⟨b,off,none⟩) n cap∧n≤cap∧cap≤maxLen∧b < w.heap.size∧E i b (off+i * sz):=by
 obtain ⟨a,cap,e,h1,h2,hx⟩:=h
 obtain ⟨b,off,rfl,hb,_,he⟩:=hx i hi
 exact ⟨b,off,cap,e,h1,h2,hb,he⟩
theorem At.form {w:World} {z:Nat} {v:Value} {n sz:Nat} {E:Nat→Nat→Nat→Prop} (h:At w z v n sz E):∃ a cap,v=.slice a n cap∧n≤maxLen:=by
 obtain ⟨a,cap,e,h1,h2,_⟩:=h
 exact ⟨a,cap,e,Nat.le_trans h1 h2⟩
theorem sum_take_succ {α:Type} (f:α→Nat) (l:List α) (k:Nat) (h:k < l.length):((l.take (k+1)).map f).sum=((l.take k).map f).sum+f l[k]:=by
 rw [List.take_succ_eq_append_getElem h,List.map_append,List.sum_append]
 simp only [List.map_cons,List.map_nil,List.sum_cons,List.sum_nil,Nat.add_zero]
def totC:List C→Nat
 | []=>0
 | x :: r=>1+x.s.size+totC r
def totR:List R→Nat
 | []=>0
 | x :: r=>1+totC x.cells+totR r
def totT (t:T):Nat:=t.cols.length+totR t.rows
def szTo (cs:List C) (k:Nat):Nat:=((cs.take k).map (fun x=>x.s.size)).sum
def rwTo (rs:List R) (k:Nat):Nat:=((rs.take k).map (fun x=>totC x.cells)).sum
structure GC where
 row:Int
 col:Int
 rows:Int
 cols:Int
 ins:Int
structure G where
 rows:Int
 cols:Int
 cells:List GC
def dG:GC:=⟨0,0,0,0,0⟩
def I64 (n:Int):Prop:=-9223372036854775808≤n∧n≤9223372036854775807
def GOk (x:GC):Prop:=I64 x.row∧I64 x.col∧I64 x.rows∧I64 x.cols∧I64 x.ins
def GIs (w:World) (b o:Nat) (x:GC):Prop :=
 w.cell? ⟨b,o,none⟩=some (.int .i64 x.row)∧w.cell? ⟨b,o+1,none⟩=some (.int .i64 x.col)∧w.cell? ⟨b,o+2,none⟩=some (.int .i64 x.rows) ∧
 w.cell? ⟨b,o+3,none⟩=some (.int .i64 x.cols)∧w.cell? ⟨b,o+4,none⟩=some (.int .i64 x.ins)
def GsAt (w:World) (z:Nat) (v:Value) (gs:List GC):Prop:=At w z v gs.length 5 (fun i b o=>GIs w b o (gs.getD i dG)∧GOk (gs.getD i dG))
def GrdAt (w:World) (z:Nat) (v:Value) (g:G):Prop:=∃ vc,v=.agg #[.int .i64 g.rows,.int .i64 g.cols,vc]∧GsAt w z vc g.cells
theorem GIs.since {w w':World} {z b o:Nat} {x:GC} (h:GIs w b o x) (hb:b < w.heap.size) (hz:z≤b) (k:Since z w w'):GIs w' b o x:=by
 unfold GIs at h ⊢
 simp only [k.cell hz hb]
 exact h
theorem GsAt.since {w w':World} {z:Nat} {v:Value} {gs:List GC} (h:GsAt w z v gs) (k:Since z w w'):GsAt w' z v gs :=
 At.mono h k.size (Nat.le_refl _) (fun _ _ _ _ hb hz he=>⟨he.1.since hb hz k,he.2⟩)
theorem GsAt.kept {w w':World} {z:Nat} {v:Value} {gs:List GC} (h:GsAt w z v gs) (k:Below w.heap.size w w'):GsAt w' z v gs:=h.since (.of_below k)
theorem GsAt.base {w:World} {z z':Nat} {v:Value} {gs:List GC} (h:GsAt w z v gs) (hz:z'≤z):GsAt w z' v gs:=At.mono h (Nat.le_refl _) hz (fun _ _ _ _ _ _ he=>he)
def findTo (p:GC→Bool) (gs:List GC):Int:=match gs.findIdx? p with | some k=>(k:Int) | none=>-1
def boundsB (R C:Int) (n:Nat):Bool:=inB R 1 8 && (inB C 1 94 && decide (n≤40))
def fitsB (R C:Int) (x:GC):Bool:=inB x.row 0 (R - 1) && (inB x.rows 1 (R - x.row) && (inB x.col 0 (C - 1) && (inB x.cols 1 (C - x.col) && inB x.ins 0 4)))
def meetsB (a b:GC):Bool:=decide (a.row < b.row+b.rows) && (decide (b.row < a.row+a.rows) && (decide (a.col < b.col+b.cols) && decide (b.col < a.col+a.cols)))
def freeG (xs:List GC) (x:GC):Bool:=xs.all fun a=>!meetsB a x
def okTo (R C:Int) (gs:List GC) (k:Nat):Bool:=(List.range k).all fun i=>fitsB R C (gs.getD i dG) && freeG (gs.take i) (gs.getD i dG)
def okB (g:G):Bool:=boundsB g.rows g.cols g.cells.length && okTo g.rows g.cols g.cells g.cells.length
def Fit5 (R C:Int) (x:GC) (r c rs cs:Nat):Prop:=x.row=r∧x.col=c∧x.rows=rs∧x.cols=cs∧1≤rs∧1≤cs∧((r+rs:Nat):Int)≤R∧((c+cs:Nat):Int)≤C
theorem fits_of {R C:Int} {x:GC} (h:fitsB R C x=true):Fit5 R C x x.row.toNat x.col.toNat x.rows.toNat x.cols.toNat:=by
 simp [fitsB,inB] at h
 unfold Fit5
 omega
def slotsG (x:GC):List Sl:=rowsSl x.row.toNat x.col.toNat x.cols.toNat x.rows.toNat
def takenBy (gs:List GC):List (Nat × Nat):=(gs.flatMap slotsG).map (·.1)
theorem takenBy_snoc (gs:List GC) (x:GC):takenBy (gs ++ [x])=takenBy gs ++ (slotsG x).map (·.1):=by simp [takenBy]
theorem mem_rowsSl {r c rs cs:Nat} (hr:r+rs≤1000) (hc:c+cs≤1000) (y:Nat × Nat):y ∈ (rowsSl r c cs rs).map (·.1) ↔ (r≤y.1∧y.1 < r+rs)∧c≤y.2∧y.2 < c+cs:=by
 simp only [rowsSl,rowSl,List.mem_map,List.mem_flatMap,List.mem_range]
 constructor
 ·rintro ⟨z,⟨i,hi,j,hj,rfl⟩,rfl⟩
  rw [toSl_val (by omega)]
  dsimp only
  omega
 ·rintro ⟨⟨h1,h2⟩,h3,h4⟩
  refine ⟨toSl (r+(y.1 - r)) (c+(y.2 - c)),⟨y.1 - r,by omega,y.2 - c,by omega,rfl⟩,?_⟩
  rw [toSl_val (by omega)]
  exact Prod.ext (by dsimp only;omega) (by dsimp only;omega)
theorem mem_slotsG {R C:Int} {x:GC} (h:fitsB R C x=true) (hR:R≤8) (hC:C≤94) (y:Nat × Nat):y ∈ (slotsG x).map (·.1) ↔ (x.row≤y.1∧(y.1:Int) < x.row+x.rows)∧x.col≤y.2∧(y.2:Int) < x.col+x.cols:=by
 obtain ⟨e1,e2,e3,e4,h1,h2,h3,h4⟩:=fits_of h
 unfold slotsG
 rw [mem_rowsSl (by omega) (by omega)]
 omega
theorem meets_iff {R C:Int} {a x:GC} (ha:fitsB R C a=true) (hx:fitsB R C x=true) (hR:R≤8) (hC:C≤94):meetsB a x=true ↔ ∃ y,y ∈ (slotsG a).map (·.1)∧y ∈ (slotsG x).map (·.1):=by
 obtain ⟨a1,a2,a3,a4,a5,a6,a7,a8⟩:=fits_of ha
 obtain ⟨x1,x2,x3,x4,x5,x6,x7,x8⟩:=fits_of hx
 have e:meetsB a x=true ↔ a.row < x.row+x.rows∧x.row < a.row+a.rows∧a.col < x.col+x.cols∧x.col < a.col+a.cols:=by simp [meetsB]
 rw [e]
 constructor
 ·rintro ⟨h1,h2,h3,h4⟩
  refine ⟨(max a.row.toNat x.row.toNat,max a.col.toNat x.col.toNat),(mem_slotsG ha hR hC _).2 ?_,(mem_slotsG hx hR hC _).2 ?_⟩
  ·dsimp only;omega
  ·dsimp only;omega
 ·rintro ⟨y,h1,h2⟩
  have k1:=(mem_slotsG ha hR hC _).1 h1
  have k2:=(mem_slotsG hx hR hC _).1 h2
  omega
theorem free_eq {R C:Int} {gs:List GC} {x:GC} (hg:∀ a ∈ gs,fitsB R C a=true) (hx:fitsB R C x=true) (hR:R≤8) (hC:C≤94):freeIn (takenBy gs) x.row.toNat x.col.toNat x.rows.toNat x.cols.toNat=freeG gs x:=by
 rw [Bool.eq_iff_iff]
 unfold freeIn freeG
 rw [List.all_eq_true,List.all_eq_true]
 constructor
 ·intro h a ha
  cases hm:meetsB a x with
  | false=>rfl
  | true =>
   obtain ⟨y,h1,h2⟩:=(meets_iff (hg a ha) hx hR hC).1 hm
   obtain ⟨z,hz,rfl⟩:=List.mem_map.1 h2
   have:=of_decide_eq_true (h z hz)
   refine absurd ?_ this
   obtain ⟨u,hu,e⟩:=List.mem_map.1 h1
   exact List.mem_map.2 ⟨u,List.mem_flatMap.2 ⟨a,ha,hu⟩,e⟩
 ·intro h z hz
  refine decide_eq_true (fun hm=>?_)
  obtain ⟨u,hu,e⟩:=List.mem_map.1 hm
  obtain ⟨a,ha,hua⟩:=List.mem_flatMap.1 hu
  have:=h a ha
  rw [(meets_iff (hg a ha) hx hR hC).2 ⟨z.1,List.mem_map.2 ⟨u,hua,e⟩,List.mem_map.2 ⟨z,hz,rfl⟩⟩] at this
  cases this
theorem rowSl_len (r c a:Nat):(rowSl r c a).length=a:=by simp [rowSl]
theorem rowsSl_len (r c cs d:Nat):(rowsSl r c cs d).length=d * cs:=by
 induction d with
 | zero=>simp [rowsSl]
 | succ d ih=>rw [rowsSl_succ,List.length_append,ih,rowSl_len,Nat.succ_mul]
theorem slotsG_len {R C:Int} {x:GC} (h:fitsB R C x=true) (hR:R≤8) (hC:C≤94):(slotsG x).length≤752:=by
 obtain ⟨e1,e2,e3,e4,h1,h2,h3,h4⟩:=fits_of h
 unfold slotsG
 rw [rowsSl_len]
 have a1:x.rows.toNat≤8:=by omega
 have a2:x.cols.toNat≤94:=by omega
 exact Nat.mul_le_mul a1 a2
theorem takenBy_len {R C:Int} (hR:R≤8) (hC:C≤94):∀ (gs:List GC),(∀ a ∈ gs,fitsB R C a=true)→(takenBy gs).length≤gs.length * 752
 | [],_=>by simp [takenBy]
 | a :: t,h=>by
  have h1:=slotsG_len (h a (by simp)) hR hC
  have h2:=takenBy_len hR hC t (fun b hb=>h b (by simp [hb]))
  simp only [takenBy,List.length_map,List.flatMap_cons,List.length_append,List.length_cons] at h2 ⊢
  omega
end Go.Proofs.YtggmjiddadjilaeGreat
namespace Go.Proofs.YtggmjiddadjilaeGreat
theorem cnt7 (l:Int) (N:Nat):(((List.range N).countP (fun c:Nat=>decide (l≤(c:Int)∧(c:Int) < l+7)):Nat):Int)≤max 0 (min 7 (N - l)):=by
 induction N with
 | zero=>simp;omega
 | succ N ih =>
  rw [List.range_succ,List.countP_append,List.countP_cons,List.countP_nil]
  by_cases h:l≤(N:Int)∧(N:Int) < l+7
  ·rw [if_pos (decide_eq_true h)];omega
  ·rw [if_neg (by simpa using h)];omega
theorem countP_or {α:Type} (p q:α→Bool) (l:List α):l.countP (fun x=>p x || q x)≤l.countP p+l.countP q:=by
 induction l with
 | nil=>simp
 | cons a t ih =>
  rw [List.countP_cons,List.countP_cons,List.countP_cons]
  cases p a <;> cases q a <;> simp <;> omega
theorem shut_cnt (N:Nat):∀ ls:List Int,(List.range N).countP (fun c:Nat=>ls.any fun l=>decide (l≤(c:Int)∧(c:Int) < l+7))≤7 * ls.length
 | []=>by simp
 | l :: t=>by
  have h1:=shut_cnt N t
  have h2:=cnt7 l N
  have h3:=countP_or (fun c:Nat=>decide (l≤(c:Int)∧(c:Int) < l+7)) (fun c:Nat=>t.any fun l=>decide (l≤(c:Int)∧(c:Int) < l+7)) (List.range N)
  simp only [List.any_cons,List.length_cons]
  omega
theorem shut_some (ls:List Int):∃ c:Nat,c≤7 * ls.length∧∀ l ∈ ls,¬ (l≤(c:Int)∧(c:Int) < l+7):=by
 apply Classical.byContradiction
 intro hn
 have hall:∀ c ∈ List.range (7 * ls.length+1),(ls.any fun l=>decide (l≤(c:Int)∧(c:Int) < l+7))=true:=by
  intro c hc
  rw [List.mem_range] at hc
  apply Classical.byContradiction
  intro h
  refine hn ⟨c,by omega,fun l hl h2=>h ?_⟩
  exact List.any_eq_true.2 ⟨l,hl,decide_eq_true h2⟩
 have h1:=List.countP_eq_length.2 hall
 have h2:=shut_cnt (7 * ls.length+1) ls
 rw [List.length_range] at h1
 omega
def atCol (x:GC) (c:Int):GC:=⟨x.row,c,x.rows,x.cols,x.ins⟩
def rowMeets (a x:GC):Bool:=decide (a.row < x.row+x.rows) && decide (x.row < a.row+a.rows)
theorem free_exists (gs:List GC) (x:GC) (hx:1≤x.cols∧x.cols≤4) (hg:∀ a ∈ gs,1≤a.cols∧a.cols≤4):∃ c:Nat,c≤7 * (gs.filter fun a=>rowMeets a x).length∧freeG gs (atCol x c)=true:=by
 obtain ⟨c,h1,h2⟩:=shut_some ((gs.filter fun a=>rowMeets a x).map fun a=>a.col - x.cols+1)
 rw [List.length_map] at h1
 refine ⟨c,h1,List.all_eq_true.2 fun a ha=>?_⟩
 cases hm:meetsB a (atCol x c) with
 | false=>rfl
 | true =>
  exfalso
  unfold meetsB atCol at hm
  simp only [Bool.and_eq_true,decide_eq_true_eq] at hm
  have hc:=hg a ha
  refine h2 (a.col - x.cols+1) (List.mem_map.2 ⟨a,List.mem_filter.2 ⟨ha,?_⟩,rfl⟩) (by omega)
  simp only [rowMeets,Bool.and_eq_true,decide_eq_true_eq]
  omega
def ffreeN (N:Nat) (gs:List GC) (x:GC):Nat:=(List.range N).findIdx (fun c:Nat=>freeG gs (atCol x c))
theorem ffreeN_le {N:Nat} {gs:List GC} {x:GC} {c:Nat} (hc:c < N) (h:freeG gs (atCol x c)=true):ffreeN N gs x≤c∧freeG gs (atCol x (ffreeN N gs x))=true∧∀ k,k < ffreeN N gs x→freeG gs (atCol x (k:Nat))=false:=by
 have hl:ffreeN N gs x < (List.range N).length:=List.findIdx_lt_length_of_exists ⟨c,List.mem_range.2 hc,h⟩
 have hno:∀ k,k < ffreeN N gs x→freeG gs (atCol x (k:Nat))=false:=by
  intro k hk
  have:=List.not_of_lt_findIdx (p:=fun c:Nat=>freeG gs (atCol x c)) (xs:=List.range N) hk
  simpa using this
 refine ⟨?_,?_,hno⟩
 ·apply Classical.byContradiction
  intro hn
  have:=hno c (by omega)
  rw [h] at this
  cases this
 ·have e:(List.range N)[ffreeN N gs x]'hl=ffreeN N gs x:=List.getElem_range hl
  have h1:freeG gs (atCol x (((List.range N)[ffreeN N gs x]'hl:Nat):Int))=true:=List.findIdx_getElem (p:=fun c:Nat=>freeG gs (atCol x c)) (xs:=List.range N) (w:=hl)
  rw [e] at h1
  exact h1
def ffree (gs:List GC) (x:GC):Nat:=ffreeN 1000 gs x
theorem ffree_le {gs:List GC} {x:GC} {c:Nat} (hc:c < 1000) (h:freeG gs (atCol x c)=true):ffree gs x≤c∧freeG gs (atCol x (ffree gs x))=true∧∀ k,k < ffree gs x→freeG gs (atCol x (k:Nat))=false:=ffreeN_le hc h
def endOf (t:T) (r:Nat):Int:=if (r:Int) < t.head then t.head else if (t.rows.length:Int) - t.foot≤r then t.rows.length else t.rows.length - t.foot
def bare (r i:Nat) (e:Int) (x:C):GC:=⟨r,0,min x.r (e - r),x.c,i⟩
def place (gs:List GC) (r i:Nat) (e:Int) (x:C):GC:=atCol (bare r i e x) (ffree gs (bare r i e x))
def rowTo (e:Int) (r:Nat) (cs:List C) (gs:List GC):Nat→List GC
 | 0=>gs
 | i+1=>rowTo e r cs gs i ++ [place (rowTo e r cs gs i) r i e (cs.getD i dC)]
def gridTo (t:T):Nat→List GC
 | 0=>[]
 | r+1=>rowTo (endOf t r) r (t.rows.getD r dR).cells (gridTo t r) (t.rows.getD r dR).cells.length
def colsOf (m:Int) (gs:List GC):Int:=gs.foldl (fun m a=>max m (a.col+a.cols)) m
theorem colsOf_snoc (m:Int) (gs:List GC) (x:GC):colsOf m (gs ++ [x])=max (colsOf m gs) (x.col+x.cols):=by simp [colsOf]
structure Low (t:T):Prop where
 rows:t.rows.length≤8
 span:∀ r ∈ t.rows,∀ x ∈ r.cells,(1≤x.c∧x.c≤4)∧1≤x.r∧x.r≤3
 few:∃ k,∀ i,(t.rows.getD i dR).cells.length≤if i=k then 5 else 4
 head:0≤t.head∧t.head≤t.rows.length
 foot:0≤t.foot∧t.head+t.foot≤t.rows.length
def Stands (n:Nat) (a:GC):Prop:=(0≤a.row∧1≤a.rows∧a.rows≤3∧a.row+a.rows≤n)∧(0≤a.col∧a.col≤84)∧(1≤a.cols∧a.cols≤4)∧0≤a.ins∧a.ins≤4
theorem endOf_bounds {t:T} (h:Low t) {r:Nat} (hr:r < t.rows.length):(r:Int) < endOf t r∧endOf t r≤t.rows.length:=by
 have h1:=h.head
 have h2:=h.foot
 unfold endOf
 split
 ·omega
 ·split <;> omega
def cntRow (gs:List GC) (q:Int):Nat:=gs.countP fun a=>decide (a.row=q)
theorem cntRow_snoc (gs:List GC) (x:GC) (q:Int):cntRow (gs ++ [x]) q=cntRow gs q+if x.row=q then 1 else 0:=by
 simp [cntRow,List.countP_append,List.countP_cons]
theorem meet_cnt (r:Nat) (x:GC) (hx:x.row=r):∀ gs:List GC,(∀ a ∈ gs,a.row≤r∧a.rows≤3)→(gs.filter fun a=>rowMeets a x).length≤cntRow gs r+(cntRow gs ((r:Int) - 1)+cntRow gs ((r:Int) - 2))
 | [],_=>by simp
 | a :: t,h=>by
  have ih:=meet_cnt r x hx t (fun b hb=>h b (by simp [hb]))
  have ha:=h a (by simp)
  unfold cntRow at ih ⊢
  rw [List.countP_cons,List.countP_cons,List.countP_cons,List.filter_cons]
  split
  ·rename_i hm
   simp only [rowMeets,Bool.and_eq_true,decide_eq_true_eq] at hm
   rw [List.length_cons]
   rcases (by omega:a.row=r∨a.row=(r:Int) - 1∨a.row=(r:Int) - 2) with e | e | e
   ·simp [e];omega
   ·simp [e];omega
   ·simp [e];omega
  ·omega
structure Part (t:T) (gs:List GC) (r i:Nat):Prop where
 stands:∀ a ∈ gs,Stands t.rows.length a∧a.row≤r
 cnt:∀ q:Nat,cntRow gs q=if q < r then (t.rows.getD q dR).cells.length else if q=r then i else 0
 neg:∀ q:Int,q < 0→cntRow gs q=0
theorem Part.few {t:T} {gs:List GC} {r i:Nat} (h:Part t gs r i) (hl:Low t) (hi:i < (t.rows.getD r dR).cells.length) (x:GC) (hx:x.row=r):(gs.filter fun a=>rowMeets a x).length≤12:=by
 have h1:=meet_cnt r x hx gs (fun a ha=>⟨(h.stands a ha).2,(h.stands a ha).1.1.2.2.1⟩)
 obtain ⟨k,hk⟩:=hl.few
 have k0:=hk r
 have c0:=h.cnt r
 rw [if_neg (by omega),if_pos rfl] at c0
 have c1:cntRow gs ((r:Int) - 1)≤if r - 1=k∧1≤r then 5 else 4:=by
  by_cases hr:1≤r
  ·have e:=h.cnt (r - 1)
   rw [if_pos (by omega),show ((r - 1:Nat):Int)=(r:Int) - 1 by omega] at e
   have:=hk (r - 1)
   split at this <;> split <;> omega
  ·rw [h.neg _ (by omega)];omega
 have c2:cntRow gs ((r:Int) - 2)≤if r - 2=k∧2≤r then 5 else 4:=by
  by_cases hr:2≤r
  ·have e:=h.cnt (r - 2)
   rw [if_pos (by omega),show ((r - 2:Nat):Int)=(r:Int) - 2 by omega] at e
   have:=hk (r - 2)
   split at this <;> split <;> omega
  ·rw [h.neg _ (by omega)];omega
 split at k0 <;> split at c1 <;> split at c2 <;> omega
theorem getD_mem' {α:Type} {l:List α} {i:Nat} {d:α} (h:i < l.length):l.getD i d ∈ l:=by
 have e:l.getD i d=l[i]:=by simp [List.getD,h]
 rw [e];exact List.getElem_mem _
theorem Part.next {t:T} {gs:List GC} {r i:Nat} (h:Part t gs r i) (hl:Low t) (hr:r < t.rows.length) (hi:i < (t.rows.getD r dR).cells.length) :
  (let x:=bare r i (endOf t r) ((t.rows.getD r dR).cells.getD i dC)
   ffree gs x≤84∧freeG gs (atCol x (ffree gs x))=true∧(∀ k,k < ffree gs x→freeG gs (atCol x (k:Nat))=false)∧∀ k:Nat,k≤84→Stands t.rows.length (atCol x k)) ∧
  Part t (gs ++ [place gs r i (endOf t r) ((t.rows.getD r dR).cells.getD i dC)]) r (i+1):=by
 have hm:=getD_mem' (d:=dR) hr
 have hx:=hl.span _ hm _ (getD_mem' (d:=dC) hi)
 have he:=endOf_bounds hl hr
 have hi5:i≤4:=by
  obtain ⟨k,hk⟩:=hl.few
  have:=hk r
  split at this <;> omega
 dsimp only
 generalize hX:(t.rows.getD r dR).cells.getD i dC=x at hx
 have hf:=h.few hl hi (bare r i (endOf t r) x) rfl
 obtain ⟨c,hc,hfree⟩:=free_exists gs (bare r i (endOf t r) x) hx.1 (fun a ha=>(h.stands a ha).1.2.2.1)
 obtain ⟨f1,f2,f3⟩:=ffree_le (by omega) hfree
 have hst:∀ k:Nat,k≤84→Stands t.rows.length (atCol (bare r i (endOf t r) x) k):=by
  intro k hk
  simp only [Stands,atCol,bare]
  omega
 refine ⟨⟨by omega,f2,f3,hst⟩,?_,?_,?_⟩
 ·intro a ha
  rcases List.mem_append.1 ha with ha | ha
  ·exact h.stands a ha
  ·simp at ha
   subst ha
   exact ⟨hst _ (by omega),Int.le_refl _⟩
 ·intro q
  have hrow:(place gs r i (endOf t r) x).row=(r:Int):=rfl
  rw [cntRow_snoc,h.cnt q,hrow]
  by_cases h1:q < r
  ·rw [if_pos h1,if_pos h1,if_neg (by omega:¬ (r:Int)=q),Nat.add_zero]
  ·rw [if_neg h1,if_neg h1]
   by_cases h2:q=r
   ·subst h2;simp
   ·rw [if_neg h2,if_neg h2,if_neg (by omega)]
 ·intro q hq
  have hrow:(place gs r i (endOf t r) x).row=(r:Int):=rfl
  rw [cntRow_snoc,h.neg q hq,hrow,if_neg (by omega)]
theorem Part.zero (t:T):Part t [] 0 0:=⟨fun a ha=>(by cases ha),fun q=>(by simp [cntRow]),fun q _=>(by simp [cntRow])⟩
theorem Part.rowEnd {t:T} {gs:List GC} {r:Nat} (h:Part t gs r (t.rows.getD r dR).cells.length):Part t gs (r+1) 0:=by
 refine ⟨fun a ha=>⟨(h.stands a ha).1,by have:=(h.stands a ha).2;omega⟩,fun q=>?_,h.neg⟩
 rw [h.cnt q]
 by_cases h1:q < r
 ·rw [if_pos h1,if_pos (by omega)]
 ·rw [if_neg h1]
  by_cases h2:q=r
  ·subst h2;simp
  ·rw [if_neg h2,if_neg (by omega)]
   split <;> rfl
theorem part_row {t:T} (hl:Low t) {r:Nat} (hr:r < t.rows.length) (h:Part t (gridTo t r) r 0):∀ i,i≤(t.rows.getD r dR).cells.length→Part t (rowTo (endOf t r) r (t.rows.getD r dR).cells (gridTo t r) i) r i
 | 0,_=>h
 | i+1,hi=>(Part.next (part_row hl hr h i (by omega)) hl hr (by omega)).2
theorem part_grid {t:T} (hl:Low t):∀ r,r≤t.rows.length→Part t (gridTo t r) r 0
 | 0,_=>Part.zero t
 | r+1,hr=>(part_row hl (by omega) (part_grid hl r (by omega)) _ (Nat.le_refl _)).rowEnd
theorem rowTo_len (e:Int) (r:Nat) (cs:List C) (gs:List GC) (i:Nat):(rowTo e r cs gs i).length=gs.length+i:=by
 induction i with
 | zero=>rfl
 | succ i ih=>simp only [rowTo,List.length_append,ih,List.length_cons,List.length_nil];omega
theorem grid_len {t:T} (hl:Low t) (r:Nat):(gridTo t r).length≤5 * r:=by
 induction r with
 | zero=>simp [gridTo]
 | succ r ih =>
  obtain ⟨k,hk⟩:=hl.few
  have:=hk r
  simp only [gridTo,rowTo_len]
  split at this <;> omega
def gridOf (t:T):List GC:=gridTo t t.rows.length
end Go.Proofs.YtggmjiddadjilaeGreat
