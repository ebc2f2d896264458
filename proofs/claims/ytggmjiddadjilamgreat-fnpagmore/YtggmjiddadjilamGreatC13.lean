/-
  PROVED HERE: what the drawing reader's l20Open and pick answer: a reader over the code; a number from 0 to n - 1; of what was in memory nothing is turned but the reader's own place. Also: 6 more texts of the same proof.
-/
import Derived.Test.YtggmjiddadjilamGreatC12
import Derived.Deep.RegionWith
set_option maxRecDepth 1000000
set_option maxHeartbeats 40000000
namespace Go.Proofs.YtggmjiddadjilamGreat
section
open Go.RowKit
def Rd (w:World) (r B:Nat):Prop :=
 ∃ (a:Option Addr) (len cap p:Nat),p≤B∧len≤2000∧w.heap[r]?=some (.cells #[.slice a len cap,.int .i64 p] 96) ∧
  ∀ i,i < len→∃ (b off:Nat) (z:Int),a=some ⟨b,off,none⟩∧b < r∧w.cell? ⟨b,off+i,none⟩=some (.int .u8 z)∧0≤z∧z≤255
theorem Rd.lt {w:World} {r B:Nat} (h:Rd w r B):r < w.heap.size:=by
 obtain ⟨a,len,cap,p,_,_,hb,_⟩:=h;exact (bL hb)
theorem Rd.mono {w:World} {r B B':Nat} (h:Rd w r B) (hB:B≤B'):Rd w r B':=by
 obtain ⟨a,len,cap,p,h1,h⟩:=h;exact ⟨a,len,cap,p,by omega,h⟩
theorem Rd.kept {w w':World} {r B:Nat} (h:Rd w r B) (hb:Below w.heap.size w w'):Rd w' r B:=by
 have hlt:=h.lt;obtain ⟨a,len,cap,p,h1,h2,hk,hc⟩:=h;refine ⟨a,len,cap,p,h1,h2,(hb.block r hlt).trans hk,fun i hi=>?_⟩;obtain ⟨b,off,z,e,l,c,z0,z1⟩:=hc i hi;exact ⟨b,off,z,e,l,(hb.cell (p:=⟨b,off+i,none⟩) (Nat.lt_trans l hlt)).trans c,z0,z1⟩
theorem Rd.keep {w w':World} {r B:Nat} (h:Rd w r B) (hk:∀ k,k≤r→w'.heap[k]?=w.heap[k]?):Rd w' r B:=by
 obtain ⟨a,len,cap,p,h1,h2,hb,hc⟩:=h;refine ⟨a,len,cap,p,h1,h2,(hk r (Nat.le_refl _)).trans hb,fun i hi=>?_⟩;obtain ⟨b,off,z,e,l,c,z0,z1⟩:=hc i hi;exact ⟨b,off,z,e,l,(World.cell?_of_block (w:=w) (a:=⟨b,off+i,none⟩) (hk b (Nat.le_of_lt l))).trans c,z0,z1⟩
theorem Rd.alloc {w:World} {r B:Nat} (h:Rd w r B) (o:Obj):Rd (w.alloc o) r B:=h.kept (ze (Below.refl _ _) _)
theorem Rd.set {w:World} {r B:Nat} (h:Rd w r B) {p:Addr} (hp:r < p.block) (u:Value):Rd (w.setCell p u) r B:=h.keep (fun _ hk=>Below.heap_setCell _ _ _ _ (by omega))
theorem Rd.drew {w:World} {r B:Nat} (h:Rd w r B):Rd w.drew r B:=h.kept (z1a (Below.refl _ _))
def InR (n k:Int):Prop:=1≤n→0≤k∧k < n
theorem zao (a b:Int) (h1:0≤a) (h2:a < 4611686018427387904) (h3:0≤b) (h4:b < 4611686018427387904):0≤bits .xor .i64 a b:=by
 obtain ⟨A,rfl⟩:=Int.eq_ofNat_of_zero_le h1;obtain ⟨B,rfl⟩:=Int.eq_ofNat_of_zero_le h3;have hx:A ^^^ B < 2 ^ 62:=Nat.xor_lt_two_pow (by omega) (by omega);have e:bits .xor .i64 (A:Int) (B:Int)=IntKind.i64.wrap ((BitVec.ofInt 64 (A:Int) ^^^ BitVec.ofInt 64 (B:Int)).toNat:Int):=rfl;rw [e,BitVec.toNat_xor,ofInt_u64 A (by omega),ofInt_u64 B (by omega)];simp [IntKind.wrap,IntKind.bits,IntKind.signed];omega
theorem z6k {x:Int} (h1:0≤x) (h2:x < 4611686018427387904):wrap64 x=x:=by unfold wrap64;omega
theorem zfI (n z y:Int) (p len:Nat) (hn:1≤n) (hp:p≤1000000) (z0:0≤z) (z1:z≤255) (y0:0≤y) (y1:y≤255) :
  InR n ((bits BinOp.xor IntKind.i64 (wrap64 (z * 131+y * 1117+(p:Int) * 29+wrap64 (wrap64 ((p:Int) / (len:Int)) * 53)))
   (wrap64 ((wrap64 (z * 131+y * 1117+(p:Int) * 29+wrap64 (wrap64 ((p:Int) / (len:Int)) * 53))).tdiv 64))).tmod n):=by
 have q0:0≤(p:Int) / (len:Int):=Int.ediv_nonneg (by omega) (by omega);have q1:(p:Int) / (len:Int)≤p:=Int.ediv_le_self _ (by omega);generalize (p:Int) / (len:Int)=q at q0 q1 ⊢;rw [z6k q0 (by omega),z6k (x:=q * 53) (by omega) (by omega),z6k (x:=z * 131+y * 1117+(p:Int) * 29+q * 53) (by omega) (by omega)];have X0:0≤z * 131+y * 1117+(p:Int) * 29+q * 53:=(by omega);have X1:z * 131+y * 1117+(p:Int) * 29+q * 53 < 4611686018427387904:=(by omega);generalize z * 131+y * 1117+(p:Int) * 29+q * 53=X at X0 X1 ⊢;rw [Int.tdiv_eq_ediv_of_nonneg X0,z6k (x:=X / 64) (by omega) (by omega)];have hx:=zao X (X / 64) X0 X1 (by omega) (by omega);generalize bits BinOp.xor IntKind.i64 X (X / 64)=Y at hx ⊢;intro _;rw [Int.tmod_eq_emod_of_nonneg hx];exact ⟨Int.emod_nonneg _ (by omega),Int.emod_lt_of_pos _ (by omega)⟩
theorem ziA {w:World} {r B:Nat} {a:Option Addr} {len cap p:Nat} (hp:p≤B) (hl:len≤2000) (hk:w.heap[r]?=some (.cells #[.slice a len cap,.int .i64 p] 96))
  (hc:∀ i,i < len→∃ (b off:Nat) (z:Int),a=some ⟨b,off,none⟩∧b < r∧w.cell? ⟨b,off+i,none⟩=some (.int .u8 z)∧0≤z∧z≤255) :
  Rd (w.setCell ⟨r,1,none⟩ (.int .i64 ((p:Int)+1))) r (B+1)∧Bk r w (w.setCell ⟨r,1,none⟩ (.int .i64 ((p:Int)+1))):=by
 have bk:Bk r w (w.setCell ⟨r,1,none⟩ (.int .i64 ((p:Int)+1))):=(Bk.refl r w).set (Or.inl rfl) _;refine ⟨⟨a,len,cap,p+1,by omega,hl,?_,fun i hi=>?_⟩,bk⟩
 ·rw [Joins.block_setCell hk];simp
 ·obtain ⟨b,off,z,e,l,c,z0,z1⟩:=hc i hi;exact ⟨b,off,z,e,l,(bk.cell (p:=⟨b,off+i,none⟩) (Nat.lt_trans l (bL hk)) (Nat.ne_of_lt l)).trans c,z0,z1⟩
theorem Rd.draws {w:World} {r B:Nat} (h:Rd w r B) (n:Nat):Rd (w.drewN n) r B:=h.kept (z3V (Below.refl _ _) n)
theorem zx (r B:Nat) (n:Int) (w:World) (h:Rd w r B) (hB:B≤1000000) :
  Calls Tryz.prog 48 #[.pointer (some ⟨r,0,none⟩),.int .i64 n] w fun e w'=>∃ k:Int,e=.returned (.int .i64 k)∧InR n k∧Rd w' r (B+1)∧Bk r w w':=by
 have hlt:=h.lt;obtain ⟨a,len,cap,p,hp,hl,hk,hc⟩:=h;have c0:w.cell? ⟨r,0,none⟩=some (.slice a len cap):=(by simp [World.cell?,hk]);have c1:w.cell? ⟨r,1,none⟩=some (.int .i64 p):=(by simp [World.cell?,hk]);have f1:w.frozen? ⟨r,1,none⟩=false:=(by simp [World.frozen?,hk]);obtain ⟨N1,N2⟩:=ziA hp hl hk hc;have HN1:Hid (Rd (w.setCell ⟨r,1,none⟩ (.int .i64 ((p:Int)+1))) r (B+1)):=N1;have HN2:Hid (Bk r w (w.setCell ⟨r,1,none⟩ (.int .i64 ((p:Int)+1)))):=N2;clear N1 N2 hk;by_cases hn:n < 1
 ·as_aux_lemma =>
   clear hc;go_enter Tryz.func48,Tryz.ntmps48;go_wp2;go_ret;exact ⟨0,rfl,fun h=>absurd h (by omega),HN1.out,HN2.out⟩
 by_cases hz:len=0
 ·as_aux_lemma =>
   have hz':((len:Int) == 0)=true:=beq_iff_eq.2 (by omega);clear hc hz;go_enter Tryz.func48,Tryz.ntmps48;go_wp2;go_ret;exact ⟨0,rfl,fun h=>by omega,HN1.out,HN2.out⟩
 have hz':((len:Int) == 0)=false:=beq_eq_false_iff_ne.2 (by omega);have hn1:1≤n:=(by omega);by_cases hpl:p < len
 ·as_aux_lemma =>
   obtain ⟨b,off,z,rfl,hbr0,hcz,hz0,hz1⟩:=hc p hpl;have hbr:b ≠ r:=(by omega);have hbl:b < w.heap.size:=(by omega);have c2:∀ v,(w.setCell ⟨r,1,none⟩ v).cell? ⟨b,off+p,none⟩=some (.int .u8 z):=fun v=>((Bk.refl r w).set (p:=⟨r,1,none⟩) (Or.inl rfl) v).cell (p:=⟨b,off+p,none⟩) hbl hbr |>.trans hcz;clear hc hcz hz hbl;go_enter Tryz.func48,Tryz.ntmps48;go_wp2;go_ret;exact ⟨_,rfl,fun _=>⟨Int.emod_nonneg _ (by omega),Int.emod_lt_of_pos _ (by omega)⟩,HN1.out,HN2.out⟩
 ·as_aux_lemma =>
   have hm1:p % len < len:=Nat.mod_lt _ (by omega);have hm2:(p * 7+3) % len < len:=Nat.mod_lt _ (by omega);obtain ⟨b,off,z,rfl,hbr0,hcz,hz0,hz1⟩:=hc _ hm1;have hbr:b ≠ r:=(by omega);have hbl:b < w.heap.size:=(by omega);obtain ⟨b',off',y,e',hbr',hcy,hy0,hy1⟩:=hc _ hm2;simp only [Option.some.injEq,Addr.mk.injEq] at e';obtain ⟨rfl,rfl,_⟩:=e';have c2:∀ v,(w.setCell ⟨r,1,none⟩ v).cell? ⟨b,off+p % len,none⟩=some (.int .u8 z):=fun v=>((Bk.refl r w).set (p:=⟨r,1,none⟩) (Or.inl rfl) v).cell (p:=⟨b,off+p % len,none⟩) hbl hbr |>.trans hcz;have c3:∀ v,(w.setCell ⟨r,1,none⟩ v).cell? ⟨b,off+(p * 7+3) % len,none⟩=some (.int .u8 y):=fun v=>((Bk.refl r w).set (p:=⟨r,1,none⟩) (Or.inl rfl) v).cell (p:=⟨b,off+(p * 7+3) % len,none⟩) hbl hbr |>.trans hcy;have i1:0≤((p:Int) * 7+3) % (len:Int):=Int.emod_nonneg _ (by omega);have i2:((p:Int) * 7+3) % (len:Int) < (len:Int):=Int.emod_lt_of_pos _ (by omega)
   have i3:(((p:Int) * 7+3) % (len:Int)).toNat=(p * 7+3) % len:=by
    have:((p:Int) * 7+3) % (len:Int)=(((p * 7+3) % len:Nat):Int):=(by simp);rw [this,Int.toNat_natCast]
   clear hc hcz hcy hz hbl hbr';go_enter Tryz.func48,Tryz.ntmps48;go_wp2;refine wp_region_quiet_lit (by kernel_rfl) (by kernel_rfl) ?_;repeat (go_big_quiet_step (fail))
   refine wpQuiet_nil ?_;intro _ hw';obtain ⟨nq,hw''⟩:=hw';subst hw'';go_wp2;go_ret;refine ⟨_,rfl,?_,HN1.out.draws _,HN2.out.drewN _⟩;exact zfI n z y p len hn1 (by omega) hz0 hz1 hy0 hy1
def z3C (w:World) (a:Option Addr) (len cap:Nat):Prop :=
 len≤cap∧cap≤maxLen∧∀ i,i < len→∃ (b off:Nat) (z:Int),a=some ⟨b,off,none⟩∧b < w.heap.size∧w.cell? ⟨b,off+i,none⟩=some (.int .u8 z)∧0≤z∧z≤255
theorem zeD (w:World):z3C w none 0 0:=⟨Nat.le_refl _,Nat.zero_le _,fun _ hi=>absurd hi (Nat.not_lt_zero _)⟩
theorem zbQ {w:World} {b o:Nat} {v:Value} (h:w.cell? ⟨b,o,none⟩=some v):b < w.heap.size:=by
 rcases Nat.lt_or_ge b w.heap.size with h1 | h1
 ·exact h1
 ·simp [World.cell?,Array.getElem?_eq_none h1] at h
theorem zhf {zs:List Int} {i:Nat} (h:i < zs.length):zs.getD i 0 ∈ zs:=by
 have e:zs.getD i 0=zs[i]:=(by simp [List.getD,h]);rw [e];exact List.getElem_mem _
theorem zfJ {w:World} {x:Addr} {len cap:Nat} {zs:List Int} (hl:len≤cap) (hm:cap≤maxLen) (hz:zs.length=cap) (hcell:∀ i,i < zs.length→w.cell? (x.add i)=some (.int .u8 (zs.getD i 0)))
  (hw:∀ n ∈ zs,(Lit.int .u8 n).wf=true):z3C w (some x) len cap:=by
 refine ⟨hl,hm,fun i hi=>?_⟩;obtain ⟨b,off,rfl,hc⟩:=ints_at hcell (by omega);have hci:=hc i (by omega);have hb:=bounds_u8 (hw _ (zhf (zs:=zs) (i:=i) (by omega)));exact ⟨b,off,_,rfl,zbQ hci,hci,hb.1,hb.2⟩
theorem ze4 {w:World} {a:Option Addr} {len cap:Nat} (L:Nat) (hL:L≤len) (h2:L≤2000)
  (hc:∀ i,i < len→∃ (b off:Nat) (z:Int),a=some ⟨b,off,none⟩∧b < w.heap.size∧w.cell? ⟨b,off+i,none⟩=some (.int .u8 z)∧0≤z∧z≤255) :
  Rd (w.alloc (.cells #[.slice a L cap,.int .i64 0] 96)) w.heap.size 0:=by
 refine ⟨a,L,cap,0,Nat.le_refl _,h2,?_,fun i hi=>?_⟩
 ·show (w.heap.push _)[w.heap.size]?=_;simp
 ·obtain ⟨b,off,z,e,l,c,z0,z1⟩:=hc i (by omega);refine ⟨b,off,z,e,l,?_,z0,z1⟩;exact ((ze (Below.refl w.heap.size w) _).cell (p:=⟨b,off+i,none⟩) l).trans c
theorem zhg (a:Option Addr) (len cap:Nat) (w:World) (h:z3C w a len cap) :
  Calls Tryz.prog 19 #[.slice a len cap] w fun e w'=>e=.returned (.pointer (some ⟨w.heap.size,0,none⟩))∧Rd w' w.heap.size 0∧Below w.heap.size w w':=by
 obtain ⟨h1,h2,hc⟩:=h;unfold maxLen at h2;by_cases hl:(2000:Int) < (len:Int)
 ·go_enter Tryz.func19,Tryz.ntmps19;go_wp2;go_ret;exact ⟨rfl,ze4 2000 (by omega) (by omega) hc,ze (Below.refl _ _) _⟩
 ·go_enter Tryz.func19,Tryz.ntmps19;go_wp2;go_ret;exact ⟨rfl,ze4 len (by omega) (by omega) hc,ze (Below.refl _ _) _⟩
theorem z2X (a b:Int) (w:World):Calls Tryz.prog 69 #[.int .i64 a,.int .i64 b] w fun e w'=>e=.returned (.int .i64 (max a b))∧w'=w:=by
 by_cases h:b < a
 ·have HE:Hid (max a b=a):=Hd (by omega);go_enter Tryz.func69,Tryz.ntmps69;go_wp2;go_ret;exact ⟨z6J HE.out.symm,rfl⟩
 ·have HE:Hid (max a b=b):=Hd (by omega);go_enter Tryz.func69,Tryz.ntmps69;go_wp2;go_ret;exact ⟨z6J HE.out.symm,rfl⟩
theorem zfK (ac ar:Option Addr) (cc cr:Nat) (t:T) (hb:t.rows.length≤8∧0≤t.foot∧t.foot≤t.rows.length) (r:Nat) (w:World) :
  Calls Tryz.prog 70 #[.agg #[.slice ac t.cols.length cc,.int .i64 t.head,.int .i64 t.foot,.slice ar t.rows.length cr,.int .i64 t.gap],.int .i64 (r:Int)] w fun e w'=>e=.returned (.int .i64 (zV t r))∧Below w.heap.size w w':=by
 obtain ⟨h1,h2,h3⟩:=hb;by_cases c1:(r:Int) < t.head
 ·have HE:Hid (zV t r=t.head):=Hd (by unfold zV;rw [if_pos c1]);go_enter Tryz.func70,Tryz.ntmps70;go_wp2;go_ret;exact ⟨z6J HE.out.symm,by repeat (first | exact Below.refl _ _ | apply ze)⟩
 ·by_cases c2:(t.rows.length:Int) - t.foot≤r
  ·have HE:Hid (zV t r=t.rows.length):=Hd (by unfold zV;rw [if_neg c1,if_pos c2]);go_enter Tryz.func70,Tryz.ntmps70;go_wp2;go_ret;exact ⟨z6J HE.out.symm,by repeat (first | exact Below.refl _ _ | apply ze)⟩
  ·have HE:Hid (zV t r=t.rows.length - t.foot):=Hd (by unfold zV;rw [if_neg c1,if_neg c2]);go_enter Tryz.func70,Tryz.ntmps70;go_wp2;go_ret;exact ⟨z6J HE.out.symm,by repeat (first | exact Below.refl _ _ | apply ze)⟩
def z6E (x:GC):List Value:=[.int .i64 x.row,.int .i64 x.col,.int .i64 x.rows,.int .i64 x.cols,.int .i64 x.ins]
def z91 (w:World) (base:Nat) (v:Value) (gs:List GC):Prop:=w.ownsRow base 112 5 v gs.length (gs.flatMap z6E)
theorem z91.at {w:World} {base:Nat} {v:Value} {gs:List GC} (h:z91 w base v gs) (hs:∀ x ∈ gs,GOk x):z1I w base v gs:=by
 rcases h.2 with ⟨rfl,hn⟩ | ⟨g,cap,cur,rfl,hg,hc,h1,h2,_⟩
 ·exact ⟨none,0,by rw [hn],by omega,by unfold maxLen;omega,fun i hi=>by omega⟩
 ·refine ⟨_,cap,rfl,h1,h2,fun i hi=>⟨g,0,rfl,(bL hc),hg,?_,?_⟩⟩
  ·have hx:∀ j,j < 5→w.cell? ⟨g,i * 5+j,none⟩=(z6E gs[i])[j]?:=fun j hj=>by
    have e:=z4o z6E 5 (fun _=>rfl) gs i hi j hj;rw [z4p h (u:=(z6E gs[i])[j]'(by show j < 5;exact hj)) (by rw [e];simp)];simp
   rw [z3n dG hi,Nat.zero_add];exact ⟨hx 0 (by omega),hx 1 (by omega),hx 2 (by omega),hx 3 (by omega),hx 4 (by omega)⟩
  ·rw [z3n dG hi];exact hs _ (List.getElem_mem hi)
theorem z1o.gok {n:Nat} {a:GC} (hn:n≤8) (h:z1o n a):GOk a:=by
 unfold z1o at h;unfold GOk I64;omega
theorem z1o.sm {n:Nat} {a:GC} (hn:n≤8) (h:z1o n a):Sm a:=by
 unfold z1o at h;unfold Sm;omega
theorem zfL:(Tryz.prog.info? 112).map (fun i=>(i.zero,i.size,i.bytes))=some (some (Value.agg #[.int .i64 0,.int .i64 0,.int .i64 0,.int .i64 0,.int .i64 0]),5,40):=by kernel_rfl
end
section
open Go.RowKit
def upd (L:Nat→Bool) (i:Nat):Nat→Bool:=fun j=>if j=i then true else L j
theorem zc {L:Nat→Bool} {i j:Nat} (h:(j == i)=false):upd L i j=L j:=by
 unfold upd;rw [if_neg (fun e=>by rw [e] at h;simp at h)]
theorem un {L:Nat→Bool} {i j:Nat} {b:Bool} (h:upd L i j=b) (e:(j == i)=false:=by rfl):L j=b:=by rwa [zc e] at h
theorem uq {L:Nat→Bool} {i j:Nat} {b:Bool} {P:Prop} (f:L j=b→P) (e:(j == i)=false:=by rfl):upd L i j=b→P:=fun h=>f (un h e)
theorem uf {L:Nat→Bool} {i j:Nat} {P:Prop} (h0:L j=false) (e:(j == i)=false:=by rfl):upd L i j=true→P:=fun h=>absurd (un h e) (by rw [h0];simp)
theorem ub {L:Nat→Bool} {i j a:Nat} {Q X:Nat→Prop} (f:L j=true→∃ g,Q g∧(L a=false→X g)) (e:(j == i)=false:=by rfl) (e2:(a == i)=false:=by rfl):upd L i j=true→∃ g,Q g∧(upd L i a=false→X g):=fun h=>(f (un h e)).elim (fun g hg=>⟨g,hg.1,fun h2=>hg.2 (un h2 e2)⟩)
theorem zH {L:Nat→Bool} {i:Nat}:upd L i i=true:=by simp [upd]
def z9A (ops:Array Oper):Bool:=(List.range ops.size).all fun i=>((ops[i]?).map fun o=>o.after.all fun e=>!Region.binds .any e || decide (e.on < i)).getD true
theorem zfM {ops:Array Oper} (h:z9A ops=true) {listed:Array Bool} (hs:listed.size=ops.size) (hr:Region.ready .any ops listed=[]):∀ i,i < ops.size→listed.getD i false=true:=by
 intro i
 induction i using Nat.strongRecOn with
 | ind i ih =>
  intro hi
  cases hl:listed.getD i false with
  | true=>rfl
  | false =>
   exfalso
   have ho:ops[i]?=some ops[i]:=Array.getElem?_eq_getElem hi;have h1:=List.all_eq_true.1 h i (List.mem_range.2 hi);rw [ho] at h1;simp only [Option.map_some,Option.getD_some] at h1
   have hm:i ∈ Region.ready .any ops listed:=by
    unfold Region.ready;rw [List.mem_filter];refine ⟨List.mem_range.2 hi,?_⟩
    have h2:listed.getD i true=false:=by
     rw [Array.getD_eq_getD_getElem?,Array.getElem?_eq_getElem (by omega)] at hl ⊢;exact hl
    rw [h2,ho];simp only [Bool.not_false,Bool.true_and,Option.map_some,Option.getD_some];rw [Array.all_eq_true_iff_forall_mem];intro e he;have h3:=Array.all_eq_true_iff_forall_mem.1 h1 e he
    cases hbn:Region.binds .any e with
    | false=>simp
    | true =>
     rw [hbn] at h3;have h4:e.on < i:=(by simpa using h3);rw [ih e.on h4 (by omega)];simp
   rw [hr] at hm
   cases hm
theorem z9B {listed:Array Bool} {i:Nat} (hi:i < listed.size):(fun j=>(listed.setIfInBounds i true).getD j false)=upd (fun j=>listed.getD j false) i:=by
 funext j
 unfold upd;rw [Array.getD_eq_getD_getElem?];by_cases h:j=i
 ·subst h;simp [hi]
 ·rw [if_neg h,Array.getElem?_setIfInBounds_ne (Ne.symm h)];exact (Array.getD_eq_getD_getElem? ..).symm
theorem zfN {l:List Bool} {i:Nat} (h:l[i]?=some false):(l.set i true).count false+1=l.count false:=by
 induction l generalizing i with
 | nil=>simp at h
 | cons a t ih =>
  cases i with
  | zero=>simp at h;subst h;simp
  | succ i =>
   simp at h;have:=ih h;rw [List.set_cons_succ,List.count_cons,List.count_cons];omega
section
variable {P:Program} {ops:Array Oper} {Q:Exit→Act→World→Prop} (J:(Nat→Bool)→Act→World→Prop)
theorem zfO (hord:z9A ops=true)
  (hs:∀ (L:Nat→Bool) (a:Act) (w:World) (i:Nat) (o:Oper),J L a w→ops[i]?=some o→L i=false→(∀ e ∈ o.after,Region.binds .any e=true→L e.on=true) →
   ∀ K:Act→World→Prop,(∀ a' w',J (upd L i) a' w'→K a' w')→if Region.wanted o (yielded ops a.tmps)=true then o.wp P a w K Q else K (a.put o.dst undef) w)
  (hd:∀ (L:Nat→Bool) (a:Act) (w:World),J L a w→(∀ i,i < ops.size→L i=true)→Q .normal a w) :
  ∀ (fuel:Nat) (listed:Array Bool) (a:Act) (w:World),listed.size=ops.size→listed.toList.count false≤fuel→J (fun j=>listed.getD j false) a w→wpAny P .any ops Q fuel listed a w:=by
 intro fuel
 induction fuel with
 | zero =>
  intro listed a w hsz hc hJ
  have hall:∀ i,i < ops.size→listed.getD i false=true:=by
   intro i hi;have h0:listed.toList.count false=0:=(by omega);have hi':i < listed.size:=(by omega);have:=List.count_eq_zero.1 h0;have hm:listed[i] ∈ listed.toList:=(by simp);rw [Array.getD_eq_getD_getElem?,Array.getElem?_eq_getElem hi',Option.getD_some]
   cases hv:listed[i] with
   | true=>rfl
   | false=>rw [hv] at hm;exact absurd hm this
  refine ⟨?_,hd _ _ _ hJ hall⟩;unfold Region.ready;rw [List.filter_eq_nil_iff];intro i hi;have hi2:=List.mem_range.1 hi;have:=hall i hi2
  have h3:listed.getD i true=true:=by
   rw [Array.getD_eq_getD_getElem?,Array.getElem?_eq_getElem (by omega)] at this ⊢;exact this
  rw [h3];simp
 | succ fuel ih =>
  intro listed a w hsz hc hJ;refine ⟨fun hr=>hd _ _ _ hJ (zfM hord hsz hr),fun i hi=>?_⟩;unfold Region.ready at hi;rw [List.mem_filter] at hi;obtain ⟨h1,h2⟩:=hi;have hlt:=List.mem_range.1 h1;have ho:ops[i]?=some ops[i]:=Array.getElem?_eq_getElem hlt;rw [ho] at h2;simp only [Option.map_some,Option.getD_some,Bool.and_eq_true] at h2;obtain ⟨h3,h4⟩:=h2;have hil:i < listed.size:=(by omega)
  have hv:listed[i]=false:=by
   rw [Array.getD_eq_getD_getElem?,Array.getElem?_eq_getElem hil] at h3
   simpa using h3
  have hfi:listed.getD i false=false:=(by rw [Array.getD_eq_getD_getElem?,Array.getElem?_eq_getElem hil,hv];rfl)
  have hstep:=hs _ a w i ops[i] hJ ho hfi (fun e he hb=>by
   have:=Array.all_eq_true_iff_forall_mem.1 h4 e he;rw [hb] at this
   simpa using this) (wpAny P .any ops Q fuel (listed.setIfInBounds i true)) (fun a' w' hJ'=>ih _ a' w' (by simpa using hsz) (by
    have:=zfN (l:=listed.toList) (i:=i) (by rw [Array.getElem?_toList,Array.getElem?_eq_getElem hil,hv]);rw [Array.toList_setIfInBounds]
    omega) (by rw [z9B hil];exact hJ'))
  unfold wpOp;rw [ho];dsimp only
  split
  ·rename_i hw;rw [if_pos hw] at hstep;exact .inl hstep
  ·rename_i hw;rw [if_neg hw] at hstep;exact hstep
theorem z7x {id:Nat} {a:Act} {w:World} (hm:P.follows .mixedOrders=true) (hord:z9A ops=true)
  (hs:∀ (L:Nat→Bool) (a:Act) (w:World) (i:Nat) (o:Oper),J L a w→ops[i]?=some o→L i=false→(∀ e ∈ o.after,Region.binds .any e=true→L e.on=true) →
   ∀ K:Act→World→Prop,(∀ a' w',J (upd L i) a' w'→K a' w')→if Region.wanted o (yielded ops a.tmps)=true then o.wp P a w K Q else K (a.put o.dst undef) w)
  (hd:∀ (L:Nat→Bool) (a:Act) (w:World),J L a w→(∀ i,i < ops.size→L i=true)→Q .normal a w)
  (h0:J (fun _=>false) a w.drew):(Code.region id ops true).wp P Q a w:=by
 refine wp_region_any hm (zfO J hord hs hd _ _ _ _ (by simp) (by simp) ?_)
 have e:(fun j=>(Array.replicate ops.size false).getD j false)=fun _=>false:=by
  funext j
  rw [Array.getD_eq_getD_getElem?];by_cases h:j < ops.size <;> simp [h]
 rw [e];exact h0
end
end
section
open Go.RowKit
def Hp (n0:Nat) (w:World) (g:Nat) (o:Obj):Prop:=n0≤g∧w.heap[g]?=some o
theorem Hp.lt {n0 g:Nat} {w:World} {o:Obj} (h:Hp n0 w g o):g < w.heap.size:=(bL h.2)
theorem Hp.bk {n0 g r:Nat} {w w':World} {o:Obj} (h:Hp n0 w g o) (hr:r < n0) (k:Bk r w w'):Hp n0 w' g o:=⟨h.1,(k.block g h.lt (by have:=h.1;omega)).trans h.2⟩
theorem Hp.alloc {n0 g:Nat} {w:World} {o:Obj} (h:Hp n0 w g o) (q:Obj):Hp n0 (w.alloc q) g o:=⟨h.1,(Below.heap_alloc _ _ _ h.lt).trans h.2⟩
theorem Hp.new {n0:Nat} {w:World} (h:n0≤w.heap.size) (q:Obj):Hp n0 (w.alloc q) w.heap.size q:=⟨h,by show (w.heap.push q)[w.heap.size]?=_;simp⟩
def PI (lo hi:Int) (u:Value):Prop:=∃ k:Int,u=.int .i64 k∧lo≤k∧k≤hi
def PS (n:Nat) (u:Value):Prop:=∃ s:ByteArray,u=.string s∧s.size≤n
def PL (n0:Nat) (w:World) (n:Nat) (arr:Array Value) (u:Value):Prop:=∃ g,u=.slice (some ⟨g,0,none⟩) n n∧Hp n0 w g (.cells arr 3)
def PA (n0:Nat) (w:World) (lo hi:Int) (u:Value):Prop:=∃ g k arr,u=.pointer (some ⟨g,k,none⟩)∧Hp n0 w g (.cells arr 3)∧∃ v:Int,arr[k]?=some (.int .i64 v)∧lo≤v∧v≤hi
theorem PL.bk {n0 n r:Nat} {w w':World} {arr:Array Value} {u:Value} (h:PL n0 w n arr u) (hr:r < n0) (k:Bk r w w'):PL n0 w' n arr u:=by
 obtain ⟨g,e,hg⟩:=h;exact ⟨g,e,hg.bk hr k⟩
theorem PA.bk {n0 r:Nat} {w w':World} {lo hi:Int} {u:Value} (h:PA n0 w lo hi u) (hr:r < n0) (k:Bk r w w'):PA n0 w' lo hi u:=by
 obtain ⟨g,k',arr,e,hg,hv⟩:=h;exact ⟨g,k',arr,e,hg.bk hr k,hv⟩
theorem zy (r:Nat) (w:World) (o:Obj):Bk r w (w.alloc o):=(Bk.refl r w).alloc o
theorem zhh (s0 s1 s2 s3 s4 s5 s6:ByteArray) (n:Nat) (h:s0.size≤n∧s1.size≤n∧s2.size≤n∧s3.size≤n∧s4.size≤n∧s5.size≤n∧s6.size≤n) (k:Int) (h0:0≤k) (h1:k < 7) :
  ∃ v:ByteArray,v.size≤n∧(#[Value.string s0,.string s1,.string s2,.string s3,.string s4,.string s5,.string s6]:Array Value)[k.toNat]?=some (.string v)∧∀ h,([Value.string s0,.string s1,.string s2,.string s3,.string s4,.string s5,.string s6]:List Value)[k.toNat]'h=.string v:=by
 rcases (by omega:k=0∨k=1∨k=2∨k=3∨k=4∨k=5∨k=6) with rfl | rfl | rfl | rfl | rfl | rfl | rfl
 ·exact ⟨s0,h.1,rfl,fun _=>rfl⟩
 ·exact ⟨s1,h.2.1,rfl,fun _=>rfl⟩
 ·exact ⟨s2,h.2.2.1,rfl,fun _=>rfl⟩
 ·exact ⟨s3,h.2.2.2.1,rfl,fun _=>rfl⟩
 ·exact ⟨s4,h.2.2.2.2.1,rfl,fun _=>rfl⟩
 ·exact ⟨s5,h.2.2.2.2.2.1,rfl,fun _=>rfl⟩
 ·exact ⟨s6,h.2.2.2.2.2.2,rfl,fun _=>rfl⟩
theorem zfP {s:ByteArray} (h:s.size=0):s.toList=[]:=by
 rw [Lib.toList_data];exact List.eq_nil_of_length_eq_zero (by simpa using h)
theorem ziB {s:ByteArray} (h:s.toList=[]):s.size=0:=by
 rw [Lib.toList_data] at h;have:=congrArg List.length h;simpa using this
theorem zeE {s v:ByteArray} {q:Nat} (hs:s.size≤30) (hq:q≤s.size) (hv:v.size≤31):(s.extract 0 q ++ v ++ s.extract q s.size).size≤61:=by
 rw [ByteArray.size_append,ByteArray.size_append,ByteArray.size_extract,ByteArray.size_extract];omega
theorem ze5 (w:World) (q:Obj):(w.alloc q).heap[w.heap.size]?=some q:=by show (w.heap.push q)[w.heap.size]?=_;simp
def z8r (w:World) (g:Nat):Prop:=w.heap[g]?=some (.cells #[.string ⟨#[97]⟩,.string ⟨#[97,110]⟩,.string ⟨#[116,104,101]⟩,.string ⟨#[111,118,101,114]⟩,.string ⟨#[117,110,100,101,114]⟩,.string ⟨#[109,101,97,100,111,119]⟩,.string ⟨#[108,105,103,104,116,104,111,117,115,101]⟩] 9)
theorem z8J (r B:Nat) (w:World) (h:Rd w r B) (hB:B≤900000) :
  Calls Tryz.prog 122 #[.pointer (some ⟨r,0,none⟩)] w fun e w'=>∃ s:ByteArray,e=.returned (.string s)∧s.size≤30∧Rd w' r (B+6)∧Bk r w w':=by
 have hlt:=h.lt;have hr0:w.heap.size ≠ r:=(by omega);have HR:Hid (Rd w r B):=h;clear h;go_enter Tryz.func122,Tryz.ntmps122;go_wp2_with fail
 refine (zx r B _ _ (Rd.alloc HR.out _) (by omega)).mono ?_;rintro e w1 ⟨k1,rfl,hk1,hR1,hb1⟩;obtain ⟨hk1a,hk1b⟩:=hk1 (by omega);have hz1:=hb1.size;simp at hz1;have W1:=Hd ((hb1.block w.heap.size (by simp) hr0).trans (ze5 _ _));have HR1:Hid (Rd w1 r (B+1)):=hR1;have HB1:Hid (Bk r w w1):=Bk.trans (Bk.alloc (Bk.refl r w) _) hb1;clear hk1 hR1 hb1;have HW1:Hid (z8r w1 w.heap.size):=W1.out;obtain ⟨q1,rfl⟩:=Int.eq_ofNat_of_zero_le hk1a;clear W1;go_wp2_with fail
 go_loopw [4,5,6] (fun s k _ W=>∃ (t:ByteArray) (q:Nat),s=.string t∧k=.int .i64 q∧t.size≤30∧q≤5∧w.heap.size+1≤W.heap.size∧Hid (Rd W r (B+6 - q))∧Hid (Bk r w W)∧Hid (z8r W w.heap.size)) (fun _ k _ _=>(intOf k).toNat)
 case atStart=>exact ⟨_,q1,rfl,rfl,by decide,by omega,by omega,Rd.mono HR1.out (by omega),HB1,HW1⟩
 case round =>
  obtain ⟨t,q,rfl,rfl,ht,hq,hsz,HRr,HBr,HWr⟩:=hrel;by_cases hq0:q=0
  ·subst hq0;go_wp2;go_ret;exact ⟨t,rfl,ht,HRr.out,HBr.out⟩
  ·have hq1:(0:Int) < (q:Int):=(by omega);go_wp2_with fail
   refine (zx r (B+6 - q) _ _ HRr.out (by omega)).mono ?_;rintro e w2 ⟨k2,rfl,hk2,hR2,hb2⟩;obtain ⟨hk2a,hk2b⟩:=hk2 (by omega);have W2:z8r w2 w.heap.size:=(hb2.block w.heap.size (by omega) hr0).trans HWr.out;obtain ⟨v,hv,hl,_⟩:=zhh ⟨#[97]⟩ ⟨#[97,110]⟩ ⟨#[116,104,101]⟩ ⟨#[111,118,101,114]⟩ ⟨#[117,110,100,101,114]⟩ ⟨#[109,101,97,100,111,119]⟩ ⟨#[108,105,103,104,116,104,111,117,115,101]⟩ 10 (by decide) k2 hk2a hk2b;have hcv:w2.cell? ⟨w.heap.size,k2.toNat,none⟩=some (.string v):=(Joins.cell_of_block W2 _).trans hl;have HW2:Hid (z8r w2 w.heap.size):=W2;have HR2:Hid (Rd w2 r (B+6 - (q - 1))):=Rd.mono hR2 (by omega);have HB2:Hid (Bk r w w2):=Bk.trans HBr.out hb2;have hz2:w.heap.size+1≤w2.heap.size:=(by have:=hb2.size;omega);clear hk2 hR2 hb2 W2 hl HRr HBr HWr;by_cases h0:t.size=0
   ·have he:t.toList=[]:=zfP h0;go_wp2;go_roundw
    case rel=>exact ⟨v,q - 1,rfl,by go_num,by omega,by omega,hz2,HR2,HB2,HW2⟩
    case measure=>simp [intOf];omega
   ·have he:¬ t.toList=[]:=fun h=>h0 (ziB h);have he2:t.toList.isEmpty=false:=(by simpa using he);by_cases h30:t.size+1+v.size≤30
    ·have h30':(t.size:Int)+1+(v.size:Int)≤30:=(by omega);go_wp2;go_roundw
     case rel=>exact ⟨_,q - 1,rfl,by go_num,by rw [ByteArray.size_append,ByteArray.size_append];have:(ByteArray.mk #[32]).size=1:=rfl;omega,by omega,hz2,HR2,HB2,HW2⟩
     case measure=>simp [intOf];omega
    ·have h30':¬ (t.size:Int)+1+(v.size:Int)≤30:=(by omega);go_wp2;go_roundw
     case rel=>exact ⟨t,q - 1,rfl,by go_num,ht,by omega,hz2,HR2,HB2,HW2⟩
     case measure=>simp [intOf];omega
theorem z6L (r B:Nat) (n:Int) (hn:1≤n) (w:World) (h:Rd w r B) (hB:B≤800000) :
  Calls Tryz.prog 124 #[.pointer (some ⟨r,0,none⟩),.int .i64 n] w fun e w'=>∃ s:ByteArray,e=.returned (.string s)∧s.size≤61∧Rd w' r (B+9)∧Bk r w w':=by
 have hlt:=h.lt;have HR:Hid (Rd w r B):=h;clear h;go_enter Tryz.func124,Tryz.ntmps124;go_wp2_with fail
 refine (z8J r B _ HR.out (by omega)).mono ?_;rintro e w1 ⟨s,rfl,hs,hR1,hb1⟩;have HR1:=Hd hR1;have HB1:=Hd hb1;have hz1:=hb1.size;clear hR1 hb1;go_wp2_with fail
 refine (zx r (B+6) _ _ HR1.out (by omega)).mono ?_;rintro e w2 ⟨k2,rfl,hk2,hR2,hb2⟩;obtain ⟨hk2a,hk2b⟩:=hk2 (by omega);have HR2:=Hd hR2;have HB2:=Hd (Bk.trans HB1.out hb2);have hz2:=hb2.size;clear hR2 hb2 hk2 HR1 HB1;by_cases h2:0 < k2
 ·go_wp2;go_ret;exact ⟨s,rfl,by omega,Rd.mono HR2.out (by omega),HB2.out⟩
 ·go_wp2_with fail
  refine (zx r (B+7) _ _ HR2.out (by omega)).mono ?_;rintro e w3 ⟨k3,rfl,hk3,hR3,hb3⟩;obtain ⟨hk3a,hk3b⟩:=hk3 (by omega);obtain ⟨q,rfl⟩:=Int.eq_ofNat_of_zero_le hk3a;have HR3:=Hd hR3;have HB3:=Hd (Bk.trans HB2.out hb3);have hz3:=hb3.size;clear hR3 hb3 hk3 HR2 HB2;have hq:(q:Int)≤(s.size:Int):=(by omega);have hq':q≤s.size:=(by omega);go_wp2_with fail
  have hlr:w3.heap.size ≠ r:=(by omega)
  go_region_with (first
   | (go_at_call 48;refine (zx r (B+8) _ _ (Rd.drew (Rd.alloc HR3.out _)) (by omega)).mono ?_;rintro e w4 ⟨k4,rfl,hk4,hR4,hb4⟩;obtain ⟨hk4a,hk4b⟩:=hk4 (by omega);obtain ⟨v,hv,hl,_⟩:=zhh ⟨#[32]⟩ ⟨#[32,32]⟩ ⟨#[65]⟩ ⟨#[49]⟩ ⟨#[45]⟩ ⟨#[0]⟩ ⟨#[97,98,99,100,101,102,103,104,105,106,97,98,99,100,101,102,103,104,105,106,97,98,99,100,101,102,103,104,105,106,120]⟩ 31 (by decide) k4 hk4a hk4b;have hcv:w4.cell? ⟨w3.heap.size,k4.toNat,none⟩=some (.string v):=(Joins.cell_of_block ((hb4.block w3.heap.size (by simp) hlr).trans (ze5 _ _)) _).trans hl;have HR4:=Hd hR4;have HB4:=Hd (Bk.trans (Bk.drew (Bk.alloc HB3.out _)) hb4);clear hk4 hR4 hb4 hl)
   | (go_at_call 48;refine (zx r (B+8) _ _ (Rd.drew HR3.out) (by omega)).mono ?_;rintro e w4 ⟨k4,rfl,hk4,hR4,hb4⟩;obtain ⟨hk4a,hk4b⟩:=hk4 (by omega);obtain ⟨v,hv,hl,hge⟩:=zhh ⟨#[32]⟩ ⟨#[32,32]⟩ ⟨#[65]⟩ ⟨#[49]⟩ ⟨#[45]⟩ ⟨#[0]⟩ ⟨#[97,98,99,100,101,102,103,104,105,106,97,98,99,100,101,102,103,104,105,106,97,98,99,100,101,102,103,104,105,106,120]⟩ 31 (by decide) k4 hk4a hk4b;have HR4:=Hd hR4;have HB4:=Hd (Bk.trans (Bk.drew HB3.out) hb4);clear hk4 hR4 hb4 hl))
  all_goals
   go_wp2;go_ret;exact ⟨_,rfl,zeE hs hq' hv,by first | exact HR4.out | exact Rd.alloc HR4.out _,by first | exact HB4.out | exact Bk.alloc HB4.out _⟩
theorem zhi (a b c:Int) (k:Int) (h0:0≤k) (h1:k < 3):∃ v:Int,(#[Value.int .i64 a,.int .i64 b,.int .i64 c]:Array Value)[k.toNat]?=some (.int .i64 v):=by
 rcases (by omega:k=0∨k=1∨k=2) with rfl | rfl | rfl <;> exact ⟨_,rfl⟩
theorem zcd (a b c d:Int) (k:Int) (h0:0≤k) (h1:k < 4):∃ v:Int,(#[Value.int .i64 a,.int .i64 b,.int .i64 c,.int .i64 d]:Array Value)[k.toNat]?=some (.int .i64 v):=by
 rcases (by omega:k=0∨k=1∨k=2∨k=3) with rfl | rfl | rfl | rfl <;> exact ⟨_,rfl⟩
theorem z04 {w:World} {g:Nat} {x y:Value} {t:TypeId} (h:w.heap[g]?=some (.cells #[x,y] t)) :
  (w.cell? ⟨g,0,none⟩=some x∧w.cell? ⟨g,1,none⟩=some y)∧w.frozen? ⟨g,0,none⟩=false∧w.frozen? ⟨g,1,none⟩=false :=
 ⟨⟨Joins.cell_of_block h 0,Joins.cell_of_block h 1⟩,Joins.unfrozen_of_block h 0,Joins.unfrozen_of_block h 1⟩
theorem zjn {w:World} {g:Nat} {x y:Value} {t:TypeId} (h:w.heap[g]?=some (.cells #[x,y] t)) (v:Value):(w.setCell ⟨g,0,none⟩ v).heap[g]?=some (.cells #[v,y] t):=by rw [Joins.block_setCell h];simp
theorem zki {w:World} {g:Nat} {x y:Value} {t:TypeId} (h:w.heap[g]?=some (.cells #[x,y] t)) (v:Value):(w.setCell ⟨g,1,none⟩ v).heap[g]?=some (.cells #[x,v] t):=by rw [Joins.block_setCell h];simp
theorem z1W {w:World} {g:Nat} {o:Option Obj} (h:w.heap[g]?=o) {p:Addr} (hp:g ≠ p.block) (v:Value):(w.setCell p v).heap[g]?=o:=(Below.heap_setCell _ _ _ _ hp).trans h
theorem z0e {w:World} {g:Nat} {o:Obj} (h:w.heap[g]?=some o) (q:Obj):(w.alloc q).heap[g]?=some o:=(Below.heap_alloc _ _ _ (bL h)).trans h
theorem z3t (w:World) (q:Obj):(w.alloc q).heap[w.heap.size]?=some q:=by show (w.heap.push q)[w.heap.size]?=_;simp
theorem ziC (w:World) (p q:Obj):((w.alloc p).alloc q).heap[w.heap.size+1]?=some q:=by
 have h:=z3t (w.alloc p) q;rw [show (w.alloc p).heap.size=w.heap.size+1 by simp] at h;exact h
theorem z3Z (r B:Nat) (n:Int) (hn:1≤n) (w:World) (h:Rd w r B) (hB:B≤900000) :
  Calls Tryz.prog 123 #[.pointer (some ⟨r,0,none⟩),.int .i64 n] w fun e w'=>∃ x y:Int,e=.returned (.agg #[.int .i64 x,.int .i64 y])∧Rd w' r (B+6)∧Bk r w w':=by
 have hlt:=h.lt;have hr0:w.heap.size ≠ r:=(by omega);have hr1:w.heap.size+1 ≠ r:=(by omega);have HR:Hid (Rd w r B):=h;clear h;go_enter Tryz.func123,Tryz.ntmps123;go_wp2_with fail
 refine (zx r (B+0) _ _ (Rd.alloc (Rd.alloc HR.out _) _) (by omega)).mono ?_;rintro e w1 ⟨k1,rfl,hk1,hR1,hb1⟩;obtain ⟨hk1a,hk1b⟩:=hk1 (by omega);have hz1:=hb1.size
 try simp at hz1
 have hx1:w.heap.size+1 < w1.heap.size:=(by omega);have hw1:w1.heap.size ≠ r:=(by omega);have A1:=Hd ((hb1.block w.heap.size (by first | omega | (simp;omega) | simp) hr0).trans (z0e (z3t _ _) _));have B1:=Hd ((hb1.block (w.heap.size+1) (by first | omega | (simp;omega) | simp) hr1).trans (ziC _ _ _));obtain ⟨⟨a10,a11⟩,af10,af11⟩:=z04 A1.out;obtain ⟨⟨b10,b11⟩,bf10,bf11⟩:=z04 B1.out;have HR1:Hid (Rd w1 r (B+1)):=hR1;have HB1:Hid (Bk r _ w1):=hb1;clear hR1 hb1 hk1 hz1
 rcases (by omega:(k1=0∨k1=1)∨k1=2∨k1=3) with hk | rfl | rfl
 ·rcases hk with rfl | rfl
  all_goals
   go_wp2_with fail
   refine (zx r (B+1) _ _ HR1.out (by omega)).mono ?_;rintro e w2 ⟨k2,rfl,hk2,hR2,hb2⟩;obtain ⟨hk2a,hk2b⟩:=hk2 (by omega);have hz2:=hb2.size
   try simp at hz2
   have hx2:w.heap.size+1 < w2.heap.size:=(by omega);have hw2:w2.heap.size ≠ r:=(by omega);have A2:=Hd ((hb2.block w.heap.size (by first | omega | (simp;omega) | simp) hr0).trans (A1.out));have B2:=Hd ((hb2.block (w.heap.size+1) (by first | omega | (simp;omega) | simp) hr1).trans (B1.out));obtain ⟨⟨a20,a21⟩,af20,af21⟩:=z04 A2.out;obtain ⟨⟨b20,b21⟩,bf20,bf21⟩:=z04 B2.out;have HR2:Hid (Rd w2 r (B+2)):=hR2;have HB2:Hid (Bk r _ w2):=hb2;clear hR2 hb2 hk2 hz2;clear a10 a11 af10 af11 b10 b11 bf10 bf11 A1 B1 hw1;go_wp2_with fail
   refine (zx r (B+2) _ _ HR2.out (by omega)).mono ?_;rintro e w3 ⟨k3,rfl,hk3,hR3,hb3⟩;obtain ⟨hk3a,hk3b⟩:=hk3 (by omega);have hz3:=hb3.size
   try simp at hz3
   have hx3:w.heap.size+1 < w3.heap.size:=(by omega);have hw3:w3.heap.size ≠ r:=(by omega);have A3:=Hd ((hb3.block w.heap.size (by first | omega | (simp;omega) | simp) hr0).trans (A2.out));have B3:=Hd ((hb3.block (w.heap.size+1) (by first | omega | (simp;omega) | simp) hr1).trans (B2.out));obtain ⟨⟨a30,a31⟩,af30,af31⟩:=z04 A3.out;obtain ⟨⟨b30,b31⟩,bf30,bf31⟩:=z04 B3.out;have HR3:Hid (Rd w3 r (B+3)):=hR3;have HB3:Hid (Bk r _ w3):=hb3;clear hR3 hb3 hk3 hz3;clear a20 a21 af20 af21 b20 b21 bf20 bf21 A2 B2 hw2;go_wp2_with fail
   refine (zx r (B+3) _ _ (Rd.set (Rd.set HR3.out (by dsimp only;omega) _) (by dsimp only;omega) _) (by omega)).mono ?_;rintro e w4 ⟨k4,rfl,hk4,hR4,hb4⟩;obtain ⟨hk4a,hk4b⟩:=hk4 (by omega);have hz4:=hb4.size
   try simp at hz4
   have hx4:w.heap.size+1 < w4.heap.size:=(by omega);have hw4:w4.heap.size ≠ r:=(by omega);have A4:=Hd ((hb4.block w.heap.size (by first | omega | (simp;omega) | simp) hr0).trans (z1W (z1W A3.out (by dsimp only;omega) _) (by dsimp only;omega) _));have B4:=Hd ((hb4.block (w.heap.size+1) (by first | omega | (simp;omega) | simp) hr1).trans (zki (zjn B3.out _) _));obtain ⟨⟨a40,a41⟩,af40,af41⟩:=z04 A4.out;obtain ⟨⟨b40,b41⟩,bf40,bf41⟩:=z04 B4.out;have HR4:Hid (Rd w4 r (B+4)):=hR4;have HB4:Hid (Bk r _ w4):=hb4;clear hR4 hb4 hk4 hz4;clear a30 a31 af30 af31 b30 b31 bf30 bf31 A3 B3 hw3;by_cases e4:k4=0
   ·subst e4;go_wp2_with fail
    refine (zx r (B+4) _ _ HR4.out (by omega)).mono ?_;rintro e w5 ⟨k5,rfl,hk5,hR5,hb5⟩;obtain ⟨hk5a,hk5b⟩:=hk5 (by omega);have hz5:=hb5.size
    try simp at hz5
    have hx5:w.heap.size+1 < w5.heap.size:=(by omega);have hw5:w5.heap.size ≠ r:=(by omega);have A5:=Hd ((hb5.block w.heap.size (by first | omega | (simp;omega) | simp) hr0).trans (A4.out));have B5:=Hd ((hb5.block (w.heap.size+1) (by first | omega | (simp;omega) | simp) hr1).trans (B4.out));obtain ⟨⟨a50,a51⟩,af50,af51⟩:=z04 A5.out;obtain ⟨⟨b50,b51⟩,bf50,bf51⟩:=z04 B5.out;have HR5:Hid (Rd w5 r (B+5)):=hR5;have HB5:Hid (Bk r _ w5):=hb5;clear hR5 hb5 hk5 hz5;clear a40 a41 af40 af41 b40 b41 bf40 bf41 A4 B4 hw4;by_cases e5:k5=0
    ·subst e5;go_wp2_with fail
     refine (zx r (B+5) _ _ (Rd.alloc HR5.out _) (by omega)).mono ?_;rintro e w6 ⟨k6,rfl,hk6,hR6,hb6⟩;obtain ⟨hk6a,hk6b⟩:=hk6 (by omega);have hz6:=hb6.size
     try simp at hz6
     have hx6:w.heap.size+1 < w6.heap.size:=(by omega);have hw6:w6.heap.size ≠ r:=(by omega);have A6:=Hd ((hb6.block w.heap.size (by first | omega | (simp;omega) | simp) hr0).trans (z0e A5.out _));have B6:=Hd ((hb6.block (w.heap.size+1) (by first | omega | (simp;omega) | simp) hr1).trans (z0e B5.out _));obtain ⟨⟨a60,a61⟩,af60,af61⟩:=z04 A6.out;obtain ⟨⟨b60,b61⟩,bf60,bf61⟩:=z04 B6.out;obtain ⟨v,hv⟩:=zhi (-1) 5 1 k6 hk6a hk6b;have hcv:w6.cell? ⟨w5.heap.size,k6.toNat,none⟩=some (.int .i64 v):=(Joins.cell_of_block ((hb6.block w5.heap.size (by simp) hw5).trans (z3t _ _)) _).trans hv;clear hv;have HR6:Hid (Rd w6 r (B+6)):=hR6;have HB6:Hid (Bk r _ w6):=hb6;clear hR6 hb6 hk6 hz6;clear a50 a51 af50 af51 b50 b51 bf50 bf51 A5 B5 hw5;go_wp2;exact bodyPost_ret (v:=.agg #[.int .i64 (v),.int .i64 (1+k3)]) (by simp [results,Tryz.results123,go_sem,a60,a61]) rfl ⟨v,1+k3,rfl,Rd.mono (B:=B+6) (Rd.set (Rd.set (Rd.set HR6.out (by dsimp only;omega) _) (by dsimp only;omega) _) (by dsimp only;omega) _) (by omega),(Bk.set (Bk.set (Bk.set (Bk.trans (Bk.alloc (Bk.trans (Bk.trans (Bk.set (Bk.set (Bk.trans (Bk.trans (Bk.trans (Bk.alloc (Bk.alloc (Bk.refl r w) _) _) HB1.out) HB2.out) HB3.out) (Or.inr (by dsimp only;omega)) _) (Or.inr (by dsimp only;omega)) _) HB4.out) HB5.out) _) HB6.out) (Or.inr (by dsimp only;omega)) _) (Or.inr (by dsimp only;omega)) _) (Or.inr (by dsimp only;omega)) _)⟩
    ·have e5':(k5 == 0)=false:=beq_eq_false_iff_ne.2 e5;go_wp2_with fail
     refine (zx r (B+5) _ _ (Rd.alloc HR5.out _) (by omega)).mono ?_;rintro e w6 ⟨k6,rfl,hk6,hR6,hb6⟩;obtain ⟨hk6a,hk6b⟩:=hk6 (by omega);have hz6:=hb6.size
     try simp at hz6
     have hx6:w.heap.size+1 < w6.heap.size:=(by omega);have hw6:w6.heap.size ≠ r:=(by omega);have A6:=Hd ((hb6.block w.heap.size (by first | omega | (simp;omega) | simp) hr0).trans (z0e A5.out _));have B6:=Hd ((hb6.block (w.heap.size+1) (by first | omega | (simp;omega) | simp) hr1).trans (z0e B5.out _));obtain ⟨⟨a60,a61⟩,af60,af61⟩:=z04 A6.out;obtain ⟨⟨b60,b61⟩,bf60,bf61⟩:=z04 B6.out;obtain ⟨v,hv⟩:=zcd (-1) 4 0 1 k6 hk6a hk6b;have hcv:w6.cell? ⟨w5.heap.size,k6.toNat,none⟩=some (.int .i64 v):=(Joins.cell_of_block ((hb6.block w5.heap.size (by simp) hw5).trans (z3t _ _)) _).trans hv;clear hv;have HR6:Hid (Rd w6 r (B+6)):=hR6;have HB6:Hid (Bk r _ w6):=hb6;clear hR6 hb6 hk6 hz6;clear a50 a51 af50 af51 b50 b51 bf50 bf51 A5 B5 hw5;go_wp2;exact bodyPost_ret (v:=.agg #[.int .i64 (1+k2),.int .i64 (v)]) (by simp [results,Tryz.results123,go_sem,a60,a61]) rfl ⟨1+k2,v,rfl,Rd.mono (B:=B+6) (Rd.set (Rd.set (Rd.set HR6.out (by dsimp only;omega) _) (by dsimp only;omega) _) (by dsimp only;omega) _) (by omega),(Bk.set (Bk.set (Bk.set (Bk.trans (Bk.alloc (Bk.trans (Bk.trans (Bk.set (Bk.set (Bk.trans (Bk.trans (Bk.trans (Bk.alloc (Bk.alloc (Bk.refl r w) _) _) HB1.out) HB2.out) HB3.out) (Or.inr (by dsimp only;omega)) _) (Or.inr (by dsimp only;omega)) _) HB4.out) HB5.out) _) HB6.out) (Or.inr (by dsimp only;omega)) _) (Or.inr (by dsimp only;omega)) _) (Or.inr (by dsimp only;omega)) _)⟩
   ·have e4':(k4 == 0)=false:=beq_eq_false_iff_ne.2 e4;go_wp2;exact bodyPost_ret (v:=.agg #[.int .i64 (1+k2),.int .i64 (1+k3)]) (by simp [results,Tryz.results123,go_sem,a40,a41]) rfl ⟨1+k2,1+k3,rfl,Rd.mono (B:=B+4) (Rd.set (Rd.set HR4.out (by dsimp only;omega) _) (by dsimp only;omega) _) (by omega),(Bk.set (Bk.set (Bk.trans (Bk.set (Bk.set (Bk.trans (Bk.trans (Bk.trans (Bk.alloc (Bk.alloc (Bk.refl r w) _) _) HB1.out) HB2.out) HB3.out) (Or.inr (by dsimp only;omega)) _) (Or.inr (by dsimp only;omega)) _) HB4.out) (Or.inr (by dsimp only;omega)) _) (Or.inr (by dsimp only;omega)) _)⟩
 ·go_wp2_with fail
  refine (zx r (B+1) _ _ HR1.out (by omega)).mono ?_;rintro e w2 ⟨k2,rfl,hk2,hR2,hb2⟩;obtain ⟨hk2a,hk2b⟩:=hk2 (by omega);have hz2:=hb2.size
  try simp at hz2
  have hx2:w.heap.size+1 < w2.heap.size:=(by omega);have hw2:w2.heap.size ≠ r:=(by omega);have A2:=Hd ((hb2.block w.heap.size (by first | omega | (simp;omega) | simp) hr0).trans (A1.out));have B2:=Hd ((hb2.block (w.heap.size+1) (by first | omega | (simp;omega) | simp) hr1).trans (B1.out));obtain ⟨⟨a20,a21⟩,af20,af21⟩:=z04 A2.out;obtain ⟨⟨b20,b21⟩,bf20,bf21⟩:=z04 B2.out;have HR2:Hid (Rd w2 r (B+2)):=hR2;have HB2:Hid (Bk r _ w2):=hb2;clear hR2 hb2 hk2 hz2;clear a10 a11 af10 af11 b10 b11 bf10 bf11 A1 B1 hw1;by_cases e2:k2=0
  all_goals
   first | subst e2 | have e2':(k2 == 0)=false:=beq_eq_false_iff_ne.2 e2
   go_wp2_with fail
   first | refine (zx r (B+2) _ _ (Rd.set HR2.out (by dsimp only;omega) _) (by omega)).mono ?_ | refine (zx r (B+2) _ _ HR2.out (by omega)).mono ?_
   rintro e w3 ⟨k3,rfl,hk3,hR3,hb3⟩;obtain ⟨hk3a,hk3b⟩:=hk3 (by omega);have hz3:=hb3.size
   try simp at hz3
   have hx3:w.heap.size+1 < w3.heap.size:=(by omega);have hw3:w3.heap.size ≠ r:=(by omega);have A3:=Hd ((hb3.block w.heap.size (by first | omega | (simp;omega) | simp) hr0).trans (by first | exact (z1W A2.out (by dsimp only;omega) _) | exact (A2.out)));have B3:=Hd ((hb3.block (w.heap.size+1) (by first | omega | (simp;omega) | simp) hr1).trans (by first | exact (zjn B2.out _) | exact (B2.out)));obtain ⟨⟨a30,a31⟩,af30,af31⟩:=z04 A3.out;obtain ⟨⟨b30,b31⟩,bf30,bf31⟩:=z04 B3.out;have HR3:Hid (Rd w3 r (B+3)):=hR3;have HB3:Hid (Bk r _ w3):=hb3;clear hR3 hb3 hk3 hz3;clear a20 a21 af20 af21 b20 b21 bf20 bf21 A2 B2 hw2;by_cases e3:k3=0
   ·subst e3;go_wp2_with fail
    refine (zx r (B+3) _ _ HR3.out (by omega)).mono ?_;rintro e w4 ⟨k4,rfl,hk4,hR4,hb4⟩;obtain ⟨hk4a,hk4b⟩:=hk4 (by omega);have hz4:=hb4.size
    try simp at hz4
    have hx4:w.heap.size+1 < w4.heap.size:=(by omega);have hw4:w4.heap.size ≠ r:=(by omega);have A4:=Hd ((hb4.block w.heap.size (by first | omega | (simp;omega) | simp) hr0).trans (A3.out));have B4:=Hd ((hb4.block (w.heap.size+1) (by first | omega | (simp;omega) | simp) hr1).trans (B3.out));obtain ⟨⟨a40,a41⟩,af40,af41⟩:=z04 A4.out;obtain ⟨⟨b40,b41⟩,bf40,bf41⟩:=z04 B4.out;have HR4:Hid (Rd w4 r (B+4)):=hR4;have HB4:Hid (Bk r _ w4):=hb4;clear hR4 hb4 hk4 hz4;clear a30 a31 af30 af31 b30 b31 bf30 bf31 A3 B3 hw3;by_cases e4:k4=0
    ·subst e4;go_wp2_with fail
     refine (zx r (B+4) _ _ (Rd.alloc HR4.out _) (by omega)).mono ?_;rintro e w5 ⟨k5,rfl,hk5,hR5,hb5⟩;obtain ⟨hk5a,hk5b⟩:=hk5 (by omega);have hz5:=hb5.size
     try simp at hz5
     have hx5:w.heap.size+1 < w5.heap.size:=(by omega);have hw5:w5.heap.size ≠ r:=(by omega);have A5:=Hd ((hb5.block w.heap.size (by first | omega | (simp;omega) | simp) hr0).trans (z0e A4.out _));have B5:=Hd ((hb5.block (w.heap.size+1) (by first | omega | (simp;omega) | simp) hr1).trans (z0e B4.out _));obtain ⟨⟨a50,a51⟩,af50,af51⟩:=z04 A5.out;obtain ⟨⟨b50,b51⟩,bf50,bf51⟩:=z04 B5.out;obtain ⟨v,hv⟩:=zhi (-1) 5 1 k5 hk5a hk5b;have hcv:w5.cell? ⟨w4.heap.size,k5.toNat,none⟩=some (.int .i64 v):=(Joins.cell_of_block ((hb5.block w4.heap.size (by simp) hw4).trans (z3t _ _)) _).trans hv;clear hv;have HR5:Hid (Rd w5 r (B+5)):=hR5;have HB5:Hid (Bk r _ w5):=hb5;clear hR5 hb5 hk5 hz5;clear a40 a41 af40 af41 b40 b41 bf40 bf41 A4 B4 hw4;go_wp2
     first | exact bodyPost_ret (v:=.agg #[.int .i64 (v),.int .i64 (0)]) (by simp [results,Tryz.results123,go_sem,a50,a51]) rfl ⟨v,0,rfl,Rd.mono (B:=B+5) (Rd.set (Rd.set (Rd.set HR5.out (by dsimp only;omega) _) (by dsimp only;omega) _) (by dsimp only;omega) _) (by omega),(Bk.set (Bk.set (Bk.set (Bk.trans (Bk.alloc (Bk.trans (Bk.trans (Bk.set (Bk.trans (Bk.trans (Bk.alloc (Bk.alloc (Bk.refl r w) _) _) HB1.out) HB2.out) (Or.inr (by dsimp only;omega)) _) HB3.out) HB4.out) _) HB5.out) (Or.inr (by dsimp only;omega)) _) (Or.inr (by dsimp only;omega)) _) (Or.inr (by dsimp only;omega)) _)⟩ | exact bodyPost_ret (v:=.agg #[.int .i64 (v),.int .i64 (0)]) (by simp [results,Tryz.results123,go_sem,a50,a51]) rfl ⟨v,0,rfl,Rd.mono (B:=B+5) (Rd.set (Rd.set (Rd.set HR5.out (by dsimp only;omega) _) (by dsimp only;omega) _) (by dsimp only;omega) _) (by omega),(Bk.set (Bk.set (Bk.set (Bk.trans (Bk.alloc (Bk.trans (Bk.trans (Bk.trans (Bk.trans (Bk.alloc (Bk.alloc (Bk.refl r w) _) _) HB1.out) HB2.out) HB3.out) HB4.out) _) HB5.out) (Or.inr (by dsimp only;omega)) _) (Or.inr (by dsimp only;omega)) _) (Or.inr (by dsimp only;omega)) _)⟩
    ·have e4':(k4 == 0)=false:=beq_eq_false_iff_ne.2 e4;go_wp2_with fail
     refine (zx r (B+4) _ _ (Rd.alloc HR4.out _) (by omega)).mono ?_;rintro e w5 ⟨k5,rfl,hk5,hR5,hb5⟩;obtain ⟨hk5a,hk5b⟩:=hk5 (by omega);have hz5:=hb5.size
     try simp at hz5
     have hx5:w.heap.size+1 < w5.heap.size:=(by omega);have hw5:w5.heap.size ≠ r:=(by omega);have A5:=Hd ((hb5.block w.heap.size (by first | omega | (simp;omega) | simp) hr0).trans (z0e A4.out _));have B5:=Hd ((hb5.block (w.heap.size+1) (by first | omega | (simp;omega) | simp) hr1).trans (z0e B4.out _));obtain ⟨⟨a50,a51⟩,af50,af51⟩:=z04 A5.out;obtain ⟨⟨b50,b51⟩,bf50,bf51⟩:=z04 B5.out;obtain ⟨v,hv⟩:=zcd (-1) 4 0 1 k5 hk5a hk5b;have hcv:w5.cell? ⟨w4.heap.size,k5.toNat,none⟩=some (.int .i64 v):=(Joins.cell_of_block ((hb5.block w4.heap.size (by simp) hw4).trans (z3t _ _)) _).trans hv;clear hv;have HR5:Hid (Rd w5 r (B+5)):=hR5;have HB5:Hid (Bk r _ w5):=hb5;clear hR5 hb5 hk5 hz5;clear a40 a41 af40 af41 b40 b41 bf40 bf41 A4 B4 hw4;go_wp2
     first | exact bodyPost_ret (v:=.agg #[.int .i64 (4),.int .i64 (v)]) (by simp [results,Tryz.results123,go_sem,a50,a51]) rfl ⟨4,v,rfl,Rd.mono (B:=B+5) (Rd.set (Rd.set (Rd.set HR5.out (by dsimp only;omega) _) (by dsimp only;omega) _) (by dsimp only;omega) _) (by omega),(Bk.set (Bk.set (Bk.set (Bk.trans (Bk.alloc (Bk.trans (Bk.trans (Bk.set (Bk.trans (Bk.trans (Bk.alloc (Bk.alloc (Bk.refl r w) _) _) HB1.out) HB2.out) (Or.inr (by dsimp only;omega)) _) HB3.out) HB4.out) _) HB5.out) (Or.inr (by dsimp only;omega)) _) (Or.inr (by dsimp only;omega)) _) (Or.inr (by dsimp only;omega)) _)⟩ | exact bodyPost_ret (v:=.agg #[.int .i64 (0),.int .i64 (v)]) (by simp [results,Tryz.results123,go_sem,a50,a51]) rfl ⟨0,v,rfl,Rd.mono (B:=B+5) (Rd.set (Rd.set (Rd.set HR5.out (by dsimp only;omega) _) (by dsimp only;omega) _) (by dsimp only;omega) _) (by omega),(Bk.set (Bk.set (Bk.set (Bk.trans (Bk.alloc (Bk.trans (Bk.trans (Bk.trans (Bk.trans (Bk.alloc (Bk.alloc (Bk.refl r w) _) _) HB1.out) HB2.out) HB3.out) HB4.out) _) HB5.out) (Or.inr (by dsimp only;omega)) _) (Or.inr (by dsimp only;omega)) _) (Or.inr (by dsimp only;omega)) _)⟩
   ·have e3':(k3 == 0)=false:=beq_eq_false_iff_ne.2 e3;go_wp2
    first | exact bodyPost_ret (v:=.agg #[.int .i64 (4),.int .i64 (0)]) (by simp [results,Tryz.results123,go_sem,a30,a31]) rfl ⟨4,0,rfl,Rd.mono (B:=B+3) (Rd.set (Rd.set HR3.out (by dsimp only;omega) _) (by dsimp only;omega) _) (by omega),(Bk.set (Bk.set (Bk.trans (Bk.set (Bk.trans (Bk.trans (Bk.alloc (Bk.alloc (Bk.refl r w) _) _) HB1.out) HB2.out) (Or.inr (by dsimp only;omega)) _) HB3.out) (Or.inr (by dsimp only;omega)) _) (Or.inr (by dsimp only;omega)) _)⟩ | exact bodyPost_ret (v:=.agg #[.int .i64 (0),.int .i64 (0)]) (by simp [results,Tryz.results123,go_sem,a30,a31]) rfl ⟨0,0,rfl,Rd.mono (B:=B+3) (Rd.set (Rd.set HR3.out (by dsimp only;omega) _) (by dsimp only;omega) _) (by omega),(Bk.set (Bk.set (Bk.trans (Bk.trans (Bk.trans (Bk.alloc (Bk.alloc (Bk.refl r w) _) _) HB1.out) HB2.out) HB3.out) (Or.inr (by dsimp only;omega)) _) (Or.inr (by dsimp only;omega)) _)⟩
 ·go_wp2_with fail
  refine (zx r (B+1) _ _ HR1.out (by omega)).mono ?_;rintro e w2 ⟨k2,rfl,hk2,hR2,hb2⟩;obtain ⟨hk2a,hk2b⟩:=hk2 (by omega);have hz2:=hb2.size
  try simp at hz2
  have hx2:w.heap.size+1 < w2.heap.size:=(by omega);have hw2:w2.heap.size ≠ r:=(by omega);have A2:=Hd ((hb2.block w.heap.size (by first | omega | (simp;omega) | simp) hr0).trans (A1.out));have B2:=Hd ((hb2.block (w.heap.size+1) (by first | omega | (simp;omega) | simp) hr1).trans (B1.out));obtain ⟨⟨a20,a21⟩,af20,af21⟩:=z04 A2.out;obtain ⟨⟨b20,b21⟩,bf20,bf21⟩:=z04 B2.out;have HR2:Hid (Rd w2 r (B+2)):=hR2;have HB2:Hid (Bk r _ w2):=hb2;clear hR2 hb2 hk2 hz2;clear a10 a11 af10 af11 b10 b11 bf10 bf11 A1 B1 hw1;by_cases e2:k2=0
  ·subst e2;go_wp2_with fail
   refine (zx r (B+2) _ _ HR2.out (by omega)).mono ?_;rintro e w3 ⟨k3,rfl,hk3,hR3,hb3⟩;obtain ⟨hk3a,hk3b⟩:=hk3 (by omega);have hz3:=hb3.size
   try simp at hz3
   have hx3:w.heap.size+1 < w3.heap.size:=(by omega);have hw3:w3.heap.size ≠ r:=(by omega);have A3:=Hd ((hb3.block w.heap.size (by first | omega | (simp;omega) | simp) hr0).trans (A2.out));have B3:=Hd ((hb3.block (w.heap.size+1) (by first | omega | (simp;omega) | simp) hr1).trans (B2.out));obtain ⟨⟨a30,a31⟩,af30,af31⟩:=z04 A3.out;obtain ⟨⟨b30,b31⟩,bf30,bf31⟩:=z04 B3.out;have HR3:Hid (Rd w3 r (B+3)):=hR3;have HB3:Hid (Bk r _ w3):=hb3;clear hR3 hb3 hk3 hz3;clear a20 a21 af20 af21 b20 b21 bf20 bf21 A2 B2 hw2;by_cases e3:k3=0
   ·subst e3;go_wp2_with fail
    refine (zx r (B+3) _ _ (Rd.alloc HR3.out _) (by omega)).mono ?_;rintro e w4 ⟨k4,rfl,hk4,hR4,hb4⟩;obtain ⟨hk4a,hk4b⟩:=hk4 (by omega);have hz4:=hb4.size
    try simp at hz4
    have hx4:w.heap.size+1 < w4.heap.size:=(by omega);have hw4:w4.heap.size ≠ r:=(by omega);have A4:=Hd ((hb4.block w.heap.size (by first | omega | (simp;omega) | simp) hr0).trans (z0e A3.out _));have B4:=Hd ((hb4.block (w.heap.size+1) (by first | omega | (simp;omega) | simp) hr1).trans (z0e B3.out _));obtain ⟨⟨a40,a41⟩,af40,af41⟩:=z04 A4.out;obtain ⟨⟨b40,b41⟩,bf40,bf41⟩:=z04 B4.out;obtain ⟨v,hv⟩:=zhi (-1) 5 1 k4 hk4a hk4b;have hcv:w4.cell? ⟨w3.heap.size,k4.toNat,none⟩=some (.int .i64 v):=(Joins.cell_of_block ((hb4.block w3.heap.size (by simp) hw3).trans (z3t _ _)) _).trans hv;clear hv;have HR4:Hid (Rd w4 r (B+4)):=hR4;have HB4:Hid (Bk r _ w4):=hb4;clear hR4 hb4 hk4 hz4;clear a30 a31 af30 af31 b30 b31 bf30 bf31 A3 B3 hw3;go_wp2;exact bodyPost_ret (v:=.agg #[.int .i64 (v),.int .i64 (0)]) (by simp [results,Tryz.results123,go_sem,a40,a41]) rfl ⟨v,0,rfl,Rd.mono (B:=B+4) (Rd.set (Rd.set (Rd.set HR4.out (by dsimp only;omega) _) (by dsimp only;omega) _) (by dsimp only;omega) _) (by omega),(Bk.set (Bk.set (Bk.set (Bk.trans (Bk.alloc (Bk.trans (Bk.trans (Bk.trans (Bk.alloc (Bk.alloc (Bk.refl r w) _) _) HB1.out) HB2.out) HB3.out) _) HB4.out) (Or.inr (by dsimp only;omega)) _) (Or.inr (by dsimp only;omega)) _) (Or.inr (by dsimp only;omega)) _)⟩
   ·have e3':(k3 == 0)=false:=beq_eq_false_iff_ne.2 e3;go_wp2_with fail
    refine (zx r (B+3) _ _ (Rd.alloc HR3.out _) (by omega)).mono ?_;rintro e w4 ⟨k4,rfl,hk4,hR4,hb4⟩;obtain ⟨hk4a,hk4b⟩:=hk4 (by omega);have hz4:=hb4.size
    try simp at hz4
    have hx4:w.heap.size+1 < w4.heap.size:=(by omega);have hw4:w4.heap.size ≠ r:=(by omega);have A4:=Hd ((hb4.block w.heap.size (by first | omega | (simp;omega) | simp) hr0).trans (z0e A3.out _));have B4:=Hd ((hb4.block (w.heap.size+1) (by first | omega | (simp;omega) | simp) hr1).trans (z0e B3.out _));obtain ⟨⟨a40,a41⟩,af40,af41⟩:=z04 A4.out;obtain ⟨⟨b40,b41⟩,bf40,bf41⟩:=z04 B4.out;obtain ⟨v,hv⟩:=zcd (-1) 4 0 1 k4 hk4a hk4b;have hcv:w4.cell? ⟨w3.heap.size,k4.toNat,none⟩=some (.int .i64 v):=(Joins.cell_of_block ((hb4.block w3.heap.size (by simp) hw3).trans (z3t _ _)) _).trans hv;clear hv;have HR4:Hid (Rd w4 r (B+4)):=hR4;have HB4:Hid (Bk r _ w4):=hb4;clear hR4 hb4 hk4 hz4;clear a30 a31 af30 af31 b30 b31 bf30 bf31 A3 B3 hw3;go_wp2;exact bodyPost_ret (v:=.agg #[.int .i64 (0),.int .i64 (v)]) (by simp [results,Tryz.results123,go_sem,a40,a41]) rfl ⟨0,v,rfl,Rd.mono (B:=B+4) (Rd.set (Rd.set (Rd.set HR4.out (by dsimp only;omega) _) (by dsimp only;omega) _) (by dsimp only;omega) _) (by omega),(Bk.set (Bk.set (Bk.set (Bk.trans (Bk.alloc (Bk.trans (Bk.trans (Bk.trans (Bk.alloc (Bk.alloc (Bk.refl r w) _) _) HB1.out) HB2.out) HB3.out) _) HB4.out) (Or.inr (by dsimp only;omega)) _) (Or.inr (by dsimp only;omega)) _) (Or.inr (by dsimp only;omega)) _)⟩
  ·have e2':(k2 == 0)=false:=beq_eq_false_iff_ne.2 e2;go_wp2;exact bodyPost_ret (v:=.agg #[.int .i64 (0),.int .i64 (0)]) (by simp [results,Tryz.results123,go_sem,a20,a21]) rfl ⟨0,0,rfl,Rd.mono (B:=B+2) (Rd.set (Rd.set HR2.out (by dsimp only;omega) _) (by dsimp only;omega) _) (by omega),(Bk.set (Bk.set (Bk.trans (Bk.trans (Bk.alloc (Bk.alloc (Bk.refl r w) _) _) HB1.out) HB2.out) (Or.inr (by dsimp only;omega)) _) (Or.inr (by dsimp only;omega)) _)⟩
def zkj:Array Value:=#[.int .i64 1,.int .i64 1,.int .i64 1,.int .i64 2,.int .i64 3,.int .i64 4]
def zkk:Array Value:=#[.int .i64 1,.int .i64 1,.int .i64 1,.int .i64 1,.int .i64 2,.int .i64 3]
def z1t:Array Value:=#[.string ⟨#[]⟩,.int .i64 0,.int .i64 0,.int .i64 0,.int .i64 0,.int .i64 0,.int .i64 0,.int .i64 0,.int .i64 0,.int .i64 0,.int .i64 0]
def PCs (s:ByteArray) (c q:Int):Prop:=s.size≤30∧(1≤c∧c≤4)∧1≤q∧q≤3
def PC (u:Value):Prop:=∃ s c q,u=.agg #[.string s,.int .i64 c,.int .i64 q,.int .i64 0,.int .i64 0,.int .i64 0,.int .i64 0,.int .i64 0,.int .i64 0,.int .i64 0,.int .i64 0]∧PCs s c q
def zjT (s:ByteArray) (c q:Int):Obj:=.cells #[.string s,.int .i64 c,.int .i64 q,.int .i64 0,.int .i64 0,.int .i64 0,.int .i64 0,.int .i64 0,.int .i64 0,.int .i64 0,.int .i64 0] 35
theorem at6 {x0 x1 x2 x3 x4 x5:Int} {lo hi:Int} (h:(lo≤x0∧x0≤hi)∧(lo≤x1∧x1≤hi)∧(lo≤x2∧x2≤hi)∧(lo≤x3∧x3≤hi)∧(lo≤x4∧x4≤hi)∧lo≤x5∧x5≤hi) (k:Int) (h0:0≤k) (h1:k≤5) :
  ∃ v:Int,(#[.int .i64 x0,.int .i64 x1,.int .i64 x2,.int .i64 x3,.int .i64 x4,.int .i64 x5]:Array Value)[k.toNat]?=some (.int .i64 v)∧lo≤v∧v≤hi:=by
 rcases (by omega:k=0∨k=1∨k=2∨k=3∨k=4∨k=5) with rfl | rfl | rfl | rfl | rfl | rfl
 ·exact ⟨x0,rfl,h.1⟩
 ·exact ⟨x1,rfl,h.2.1⟩
 ·exact ⟨x2,rfl,h.2.2.1⟩
 ·exact ⟨x3,rfl,h.2.2.2.1⟩
 ·exact ⟨x4,rfl,h.2.2.2.2.1⟩
 ·exact ⟨x5,rfl,h.2.2.2.2.2⟩
theorem at3 (k:Int) (h0:0≤k) (h1:k < 3):∃ v:Int,(#[Value.int .i64 0,.int .i64 5,.int .i64 (-1)]:Array Value)[k.toNat]?=some (.int .i64 v)∧(v≤3∨v=5):=by
 rcases (by omega:k=0∨k=1∨k=2) with rfl | rfl | rfl
 ·exact ⟨0,rfl,by omega⟩
 ·exact ⟨5,rfl,by omega⟩
 ·exact ⟨-1,rfl,by omega⟩
def cnt (L:Nat→Bool):Nat:=(if L 1=true then 6 else 0)+(if L 4=true then 1 else 0)+(if L 9=true then 1 else 0)
theorem z9C (L:Nat→Bool):cnt L≤8:=by unfold cnt;split <;> split <;> split <;> omega
theorem z2o {L:Nat→Bool} {i:Nat} (h:i ≠ 1∧i ≠ 4∧i ≠ 9):cnt (upd L i)=cnt L:=by
 have h1:1 ≠ i:=fun e=>h.1 e.symm;have h4:4 ≠ i:=fun e=>h.2.1 e.symm;have h9:9 ≠ i:=fun e=>h.2.2 e.symm;simp [cnt,upd,h1,h4,h9]
theorem zjU {L:Nat→Bool} (h:L 1=false):cnt (upd L 1)=cnt L+6:=by simp [cnt,upd,h];omega
theorem zjV {L:Nat→Bool} (h:L 4=false):cnt (upd L 4)=cnt L+1:=by simp [cnt,upd,h];omega
theorem zjW {L:Nat→Bool} (h:L 9=false):cnt (upd L 9)=cnt L+1:=by simp [cnt,upd,h]
structure zjX (r B n0:Nat) (w0:World) (L:Nat→Bool) (w:World) (v5 v6 v7 v8 v9 v10 v11 v12 v13 v14 v15 v16 v17 v18:Value):Prop where
 f0:L 0=true→v6=.pointer (some ⟨r,0,none⟩)
 f1:L 1=true→PS 30 v7
 f2:L 2=true→PL n0 w 6 zkj v8
 f3:L 3=true→v9=.pointer (some ⟨r,0,none⟩)
 f4:L 4=true→PI 0 5 v10
 f5:L 5=true→PA n0 w 1 4 v11
 f6:L 6=true→PI 1 4 v12
 f7:L 7=true→PL n0 w 6 zkk v13
 f8:L 8=true→v14=.pointer (some ⟨r,0,none⟩)
 f9:L 9=true→PI 0 5 v15
 f10:L 10=true→PA n0 w 1 3 v16
 f11:L 11=true→PI 1 3 v17
 f12:L 12=true→PC v18
 f13:L 13=true→∃ g,v5=.pointer (some ⟨g,0,none⟩)∧n0 < g∧(L 14=false→Hp n0 w g (.cells z1t 35))
 f14:L 14=true→∃ g s c q,v5=.pointer (some ⟨g,0,none⟩)∧n0 < g∧Hp n0 w g (zjT s c q)∧PCs s c q
 o14:L 14=true→L 13=true
 rd:Rd w r (B+cnt L)
 bk:Bk r w0 w
 hp:Hp n0 w n0 (.cells z1t 35)
def zjY (r B n0:Nat) (n:Int) (w0:World) (L:Nat→Bool) (a:Act) (w:World):Prop:=∃ v5 v6 v7 v8 v9 v10 v11 v12 v13 v14 v15 v16 v17 v18:Value,a=⟨#[.pointer (some ⟨r,0,none⟩),.int .i64 n,undef,undef,.pointer (some ⟨n0,0,none⟩),v5,v6,v7,v8,v9,v10,v11,v12,v13,v14,v15,v16,v17,v18,undef,undef,undef,undef,undef,undef,undef,undef,undef,undef,undef,undef,undef,undef,undef,undef,undef,undef,undef,undef,undef,undef,undef,undef,undef,undef,undef,undef,undef,undef,undef,undef,undef,undef,undef,undef,undef,undef,undef,undef,undef,undef,undef,undef,undef,undef,undef,undef,undef,undef,undef],[]⟩∧zjX r B n0 w0 L w v5 v6 v7 v8 v9 v10 v11 v12 v13 v14 v15 v16 v17 v18
end
end Go.Proofs.YtggmjiddadjilamGreat
