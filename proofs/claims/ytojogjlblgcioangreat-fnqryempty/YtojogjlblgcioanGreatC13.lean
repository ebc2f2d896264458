/-
  PROVED HERE: what it is that a call owns the cells, the columns and the rows of a table: it stays where other blocks are turned; such a table lies in memory. Also: 9 more texts of the same proof.
-/
import Derived.Test.YtojogjlblgcioanGreatC12
import Derived.Test.YtojogjlblgcioanGreatC1
import Derived.Test.YtojogjlblgcioanGreatC2
import Derived.WalkLawsBesides
import Derived.WalkSpells
import Derived.Deep.QuietTactic
import Derived.BigQuiet
import Derived.Laws.BitsAllLaws
import Derived.RegionTactic
import Derived.Lib.SmallJoins
import Derived.OpenShut
import Derived.WalkKit
import Derived.ProofKit
import Derived.Below
import Derived.Orders
namespace Go.Proofs.YtojogjlblgcioanGreat
open Go.RowKit
def cellVs (x:C):List Value:=[.string x.s,.int .i64 x.c,.int .i64 x.r,.int .i64 x.a1,.int .i64 x.b1,.int .i64 x.a2,.int .i64 x.b2,.int .i64 x.a3,.int .i64 x.b3,.int .i64 x.a4,.int .i64 x.b4]
def colVs (p:Int × Int):List Value:=[.int .i64 p.1,.int .i64 p.2]
def rowVs (p:Value × R):List Value:=[p.1,.bool p.2.whole]
def OwnC (w:World) (base:Nat) (u:Value) (cs:List C):Prop:=w.ownsRow base 88 11 u cs.length (cs.flatMap cellVs)
def OwnCol (w:World) (base:Nat) (v:Value) (ps:List (Int × Int)):Prop:=w.ownsRow base 130 2 v ps.length (ps.flatMap colVs)
structure OwnR (w:World) (base:Nat) (v:Value) (ur:List (Value × R)):Prop where
 own:w.ownsRow base 84 2 v ur.length (ur.flatMap rowVs)
 cells:∀ p ∈ ur,OwnC w base p.1 p.2.cells
 apart:ur.Pairwise fun p q=>p.1.ownBlock=none∨p.1.ownBlock ≠ q.1.ownBlock
structure Off (n:Nat) (b1 b2:Option Nat) (w w':World):Prop where
 size:w.heap.size≤w'.heap.size
 block:∀ k,n≤k→k < w.heap.size→some k ≠ b1→some k ≠ b2→w'.heap[k]?=w.heap[k]?
theorem Off.bk {n r:Nat} {b1 b2:Option Nat} {w w':World} (h:Bk r w w') (hr:r < n):Off n b1 b2 w w':=⟨h.size,fun k hk hl _ _=>h.block k hl (by omega)⟩
theorem Off.grown {n:Nat} {b1 b2:Option Nat} {w w':World} (h:w.grownBy w' b2):Off n b1 b2 w w':=⟨h.size,fun k _ hl _ h2=>h.block k hl h2⟩
theorem Off.set {n g:Nat} {b2:Option Nat} (w:World) (p:Addr) (hp:p.block=g) (v:Value):Off n (some g) b2 w (w.setCell p v):=⟨by simp [World.setCell],fun k _ _ h1 _=>Below.heap_setCell _ _ _ _ (fun e=>h1 (by rw [e,hp]))⟩
theorem row_off {w w':World} {base n:Nat} {e:TypeId} {sz:Nat} {v:Value} {m:Nat} {xs:List Value} {b1 b2:Option Nat} (h:w.ownsRow base e sz v m xs) (k:Off n b1 b2 w w') (hn:n≤base) (h1:v.ownBlock=none∨v.ownBlock ≠ b1) (h2:v.ownBlock=none∨v.ownBlock ≠ b2):w'.ownsRow base e sz v m xs :=
 ⟨h.1,h.2.elim Or.inl (fun ⟨g,cap,cur,hv,hg,hc,q⟩=>Or.inr ⟨g,cap,cur,hv,hg,(k.block g (by omega) (bL hc)
  (fun e=>by subst hv;rcases h1 with h1 | h1 <;> simp [Value.ownBlock] at h1;exact h1 e)
  (fun e=>by subst hv;rcases h2 with h2 | h2 <;> simp [Value.ownBlock] at h2;exact h2 e)).trans hc,q⟩)⟩
theorem row_ne {w:World} {base base':Nat} {e e':TypeId} {sz sz':Nat} {v v':Value} {m m':Nat} {xs xs':List Value} (h:w.ownsRow base e sz v m xs) (h':w.ownsRow base' e' sz' v' m' xs') (he:e ≠ e'):v.ownBlock=none∨v.ownBlock ≠ v'.ownBlock:=by
 rcases h.2 with ⟨rfl,_⟩ | ⟨g,cap,cur,rfl,_,hc,_⟩
 ·exact .inl rfl
 ·refine .inr (fun e1=>?_)
  rcases h'.2 with ⟨rfl,_⟩ | ⟨g',cap',cur',rfl,_,hc',_⟩
  ·simp [Value.ownBlock] at e1
  ·simp [Value.ownBlock] at e1
   subst e1
   rw [hc] at hc'
   simp at hc'
   exact he hc'.2
theorem row_ne_block {w:World} {base:Nat} {e e':TypeId} {sz:Nat} {v:Value} {m:Nat} {xs:List Value} {g:Nat} {cur:Array Value} (h:w.ownsRow base e sz v m xs) (h':w.heap[g]?=some (.cells cur e')) (he:e ≠ e'):v.ownBlock=none∨v.ownBlock ≠ some g:=by
 rcases h.2 with ⟨rfl,_⟩ | ⟨g',cap,cur',rfl,_,hc,_⟩
 ·exact .inl rfl
 ·refine .inr (fun e1=>?_)
  simp [Value.ownBlock] at e1
  subst e1
  rw [hc] at h'
  simp at h'
  exact he h'.2
theorem row_lt {w:World} {base:Nat} {e:TypeId} {sz:Nat} {v:Value} {m:Nat} {xs:List Value} (h:w.ownsRow base e sz v m xs) {b:Nat} (hb:v.ownBlock=some b):base≤b∧b < w.heap.size:=by
 rcases h.2 with ⟨rfl,_⟩ | ⟨g,cap,cur,rfl,hg,hc,_⟩
 ·simp [Value.ownBlock] at hb
 ·simp [Value.ownBlock] at hb
  subst hb
  exact ⟨hg,(bL hc)⟩
theorem row_base {w:World} {base base':Nat} {e:TypeId} {sz:Nat} {v:Value} {m:Nat} {xs:List Value} (h:w.ownsRow base e sz v m xs) (hb:base'≤base):w.ownsRow base' e sz v m xs :=
 ⟨h.1,h.2.elim Or.inl (fun ⟨g,cap,cur,hv,hg,q⟩=>Or.inr ⟨g,cap,cur,hv,by omega,q⟩)⟩
theorem OwnR.off {w w':World} {base n:Nat} {v:Value} {ur:List (Value × R)} {b1 b2:Option Nat} (h:OwnR w base v ur) (k:Off n b1 b2 w w') (hn:n≤base) (h1:v.ownBlock=none∨v.ownBlock ≠ b1) (h2:v.ownBlock=none∨v.ownBlock ≠ b2)
  (hc:∀ p ∈ ur,(p.1.ownBlock=none∨p.1.ownBlock ≠ b1)∧(p.1.ownBlock=none∨p.1.ownBlock ≠ b2)):OwnR w' base v ur :=
 ⟨row_off h.own k hn h1 h2,fun p hp=>row_off (h.cells p hp) k hn (hc p hp).1 (hc p hp).2,h.apart⟩
def OffV (v:Value) (b1 b2:Option Nat):Prop:=(v.ownBlock=none∨v.ownBlock ≠ b1)∧(v.ownBlock=none∨v.ownBlock ≠ b2)
theorem getD_get {α:Type} {l:List α} {i:Nat} (d:α) (h:i < l.length):l.getD i d=l[i]:=by simp [List.getD,h]
theorem OwnC.at {w:World} {base:Nat} {u:Value} {cs:List C} (h:OwnC w base u cs) (hs:∀ x ∈ cs,x.s.size≤61):CellsAt w base u cs:=by
 rcases h.2 with ⟨rfl,hn⟩ | ⟨g,cap,cur,rfl,hg,hc,h1,h2,_⟩
 ·exact ⟨none,0,by rw [hn],by omega,by unfold maxLen;omega,fun i hi=>by omega⟩
 ·refine ⟨_,cap,rfl,h1,h2,fun i hi=>⟨g,0,rfl,(bL hc),hg,?_,?_⟩⟩
  ·have hx:∀ j,j < 11→w.cell? ⟨g,i * 11+j,none⟩=(cellVs cs[i])[j]?:=fun j hj=>by
    have e:=flat_get cellVs 11 (fun _=>rfl) cs i hi j hj
    rw [row_cell h (u:=(cellVs cs[i])[j]'(by show j < 11;exact hj)) (by rw [e];simp)]
    simp
   rw [getD_get dC hi,Nat.zero_add]
   exact ⟨hx 0 (by omega),hx 1 (by omega),hx 2 (by omega),hx 3 (by omega),hx 4 (by omega),hx 5 (by omega),hx 6 (by omega),hx 7 (by omega),hx 8 (by omega),hx 9 (by omega),hx 10 (by omega)⟩
  ·rw [getD_get dC hi]
   have:=hs _ (List.getElem_mem hi)
   unfold maxLen
   omega
theorem OwnCol.at {w:World} {base:Nat} {u:Value} {ps:List (Int × Int)} (h:OwnCol w base u ps):ColsAt w base u ps:=by
 rcases h.2 with ⟨rfl,hn⟩ | ⟨g,cap,cur,rfl,hg,hc,h1,h2,_⟩
 ·exact ⟨none,0,by rw [hn],by omega,by unfold maxLen;omega,fun i hi=>by omega⟩
 ·refine ⟨_,cap,rfl,h1,h2,fun i hi=>⟨g,0,rfl,(bL hc),hg,?_⟩⟩
  have hx:∀ j,j < 2→w.cell? ⟨g,i * 2+j,none⟩=(colVs ps[i])[j]?:=fun j hj=>by
   have e:=flat_get colVs 2 (fun _=>rfl) ps i hi j hj
   rw [row_cell h (u:=(colVs ps[i])[j]'(by show j < 2;exact hj)) (by rw [e];simp)]
   simp
  dsimp only
  rw [getD_get (0,0) hi,Nat.zero_add]
  exact ⟨hx 0 (by omega),hx 1 (by omega)⟩
theorem OwnR.at {w:World} {base:Nat} {v:Value} {ur:List (Value × R)} (h:OwnR w base v ur) (hs:∀ p ∈ ur,∀ x ∈ p.2.cells,x.s.size≤61):RowsAt w base v (ur.map (·.2)):=by
 have hl:(ur.map (·.2)).length=ur.length:=by simp
 rcases h.own.2 with ⟨rfl,hn⟩ | ⟨g,cap,cur,rfl,hg,hc,h1,h2,_⟩
 ·exact ⟨none,0,by rw [hl,hn],by rw [hl];omega,by unfold maxLen;omega,fun i hi=>by rw [hl] at hi;omega⟩
 ·refine ⟨_,cap,by rw [hl],by rw [hl];exact h1,h2,fun i hi=>⟨g,0,rfl,(bL hc),hg,?_⟩⟩
  rw [hl] at hi
  have hx:∀ j,j < 2→w.cell? ⟨g,i * 2+j,none⟩=(rowVs ur[i])[j]?:=fun j hj=>by
   have e:=flat_get rowVs 2 (fun _=>rfl) ur i hi j hj
   rw [row_cell h.own (u:=(rowVs ur[i])[j]'(by show j < 2;exact hj)) (by rw [e];simp)]
   simp
  have hm:=List.getElem_mem hi
  dsimp only
  rw [getD_get dR (by rw [hl];exact hi),Nat.zero_add,List.getElem_map]
  exact ⟨ur[i].1,hx 0 (by omega),hx 1 (by omega),(h.cells _ hm).at (hs _ hm)⟩
def Rd (w:World) (r B:Nat):Prop :=
 ∃ (a:Option Addr) (len cap p:Nat),p≤B∧len≤2000∧w.heap[r]?=some (.cells #[.slice a len cap,.int .i64 p] 124) ∧
  ∀ i,i < len→∃ (b off:Nat) (z:Int),a=some ⟨b,off,none⟩∧b < r∧w.cell? ⟨b,off+i,none⟩=some (.int .u8 z)∧0≤z∧z≤255
theorem Rd.lt {w:World} {r B:Nat} (h:Rd w r B):r < w.heap.size:=by
 obtain ⟨a,len,cap,p,_,_,hb,_⟩:=h
 exact (bL hb)
theorem Rd.mono {w:World} {r B B':Nat} (h:Rd w r B) (hB:B≤B'):Rd w r B':=by
 obtain ⟨a,len,cap,p,h1,h⟩:=h
 exact ⟨a,len,cap,p,by omega,h⟩
theorem Rd.kept {w w':World} {r B:Nat} (h:Rd w r B) (hb:Below w.heap.size w w'):Rd w' r B:=by
 have hlt:=h.lt
 obtain ⟨a,len,cap,p,h1,h2,hk,hc⟩:=h
 refine ⟨a,len,cap,p,h1,h2,(hb.block r hlt).trans hk,fun i hi=>?_⟩
 obtain ⟨b,off,z,e,l,c,z0,z1⟩:=hc i hi
 exact ⟨b,off,z,e,l,(hb.cell (p:=⟨b,off+i,none⟩) (Nat.lt_trans l hlt)).trans c,z0,z1⟩
theorem Rd.keep {w w':World} {r B:Nat} (h:Rd w r B) (hk:∀ k,k≤r→w'.heap[k]?=w.heap[k]?):Rd w' r B:=by
 obtain ⟨a,len,cap,p,h1,h2,hb,hc⟩:=h
 refine ⟨a,len,cap,p,h1,h2,(hk r (Nat.le_refl _)).trans hb,fun i hi=>?_⟩
 obtain ⟨b,off,z,e,l,c,z0,z1⟩:=hc i hi
 exact ⟨b,off,z,e,l,(World.cell?_of_block (w:=w) (a:=⟨b,off+i,none⟩) (hk b (Nat.le_of_lt l))).trans c,z0,z1⟩
theorem Rd.alloc {w:World} {r B:Nat} (h:Rd w r B) (o:Obj):Rd (w.alloc o) r B:=h.kept (k_alloc (Below.refl _ _) _)
theorem Rd.set {w:World} {r B:Nat} (h:Rd w r B) {p:Addr} (hp:r < p.block) (u:Value):Rd (w.setCell p u) r B:=h.keep (fun _ hk=>Below.heap_setCell _ _ _ _ (by omega))
theorem Rd.drew {w:World} {r B:Nat} (h:Rd w r B):Rd w.drew r B:=h.kept (k_drew (Below.refl _ _))
def InR (n k:Int):Prop:=1≤n→0≤k∧k < n
theorem i64_xor_nonneg (a b:Int) (h1:0≤a) (h2:a < 4611686018427387904) (h3:0≤b) (h4:b < 4611686018427387904):0≤bits .xor .i64 a b:=by
 obtain ⟨A,rfl⟩:=Int.eq_ofNat_of_zero_le h1
 obtain ⟨B,rfl⟩:=Int.eq_ofNat_of_zero_le h3
 have hx:A ^^^ B < 2 ^ 62:=Nat.xor_lt_two_pow (by omega) (by omega)
 have e:bits .xor .i64 (A:Int) (B:Int)=IntKind.i64.wrap ((BitVec.ofInt 64 (A:Int) ^^^ BitVec.ofInt 64 (B:Int)).toNat:Int):=rfl
 rw [e,BitVec.toNat_xor,ofInt_u64 A (by omega),ofInt_u64 B (by omega)]
 simp [IntKind.wrap,IntKind.bits,IntKind.signed]
 omega
theorem wrap64_in {x:Int} (h1:0≤x) (h2:x < 4611686018427387904):wrap64 x=x:=by unfold wrap64;omega
theorem pick_math (n z y:Int) (p len:Nat) (hn:1≤n) (hp:p≤1000000) (z0:0≤z) (z1:z≤255) (y0:0≤y) (y1:y≤255) :
  InR n ((bits BinOp.xor IntKind.i64 (wrap64 (z * 131+y * 1117+(p:Int) * 29+wrap64 (wrap64 ((p:Int) / (len:Int)) * 53)))
   (wrap64 ((wrap64 (z * 131+y * 1117+(p:Int) * 29+wrap64 (wrap64 ((p:Int) / (len:Int)) * 53))).tdiv 64))).tmod n):=by
 have q0:0≤(p:Int) / (len:Int):=Int.ediv_nonneg (by omega) (by omega)
 have q1:(p:Int) / (len:Int)≤p:=Int.ediv_le_self _ (by omega)
 generalize (p:Int) / (len:Int)=q at q0 q1 ⊢
 rw [wrap64_in q0 (by omega),wrap64_in (x:=q * 53) (by omega) (by omega),wrap64_in (x:=z * 131+y * 1117+(p:Int) * 29+q * 53) (by omega) (by omega)]
 have X0:0≤z * 131+y * 1117+(p:Int) * 29+q * 53:=by omega
 have X1:z * 131+y * 1117+(p:Int) * 29+q * 53 < 4611686018427387904:=by omega
 generalize z * 131+y * 1117+(p:Int) * 29+q * 53=X at X0 X1 ⊢
 rw [Int.tdiv_eq_ediv_of_nonneg X0,wrap64_in (x:=X / 64) (by omega) (by omega)]
 have hx:=i64_xor_nonneg X (X / 64) X0 X1 (by omega) (by omega)
 generalize bits BinOp.xor IntKind.i64 X (X / 64)=Y at hx ⊢
 intro _
 rw [Int.tmod_eq_emod_of_nonneg hx]
 exact ⟨Int.emod_nonneg _ (by omega),Int.emod_lt_of_pos _ (by omega)⟩
theorem rd_next {w:World} {r B:Nat} {a:Option Addr} {len cap p:Nat} (hp:p≤B) (hl:len≤2000) (hk:w.heap[r]?=some (.cells #[.slice a len cap,.int .i64 p] 124))
  (hc:∀ i,i < len→∃ (b off:Nat) (z:Int),a=some ⟨b,off,none⟩∧b < r∧w.cell? ⟨b,off+i,none⟩=some (.int .u8 z)∧0≤z∧z≤255) :
  Rd (w.setCell ⟨r,1,none⟩ (.int .i64 ((p:Int)+1))) r (B+1)∧Bk r w (w.setCell ⟨r,1,none⟩ (.int .i64 ((p:Int)+1))):=by
 have bk:Bk r w (w.setCell ⟨r,1,none⟩ (.int .i64 ((p:Int)+1))):=(Bk.refl r w).set (Or.inl rfl) _
 refine ⟨⟨a,len,cap,p+1,by omega,hl,?_,fun i hi=>?_⟩,bk⟩
 ·rw [Joins.block_setCell hk]
  simp
 ·obtain ⟨b,off,z,e,l,c,z0,z1⟩:=hc i hi
  exact ⟨b,off,z,e,l,(bk.cell (p:=⟨b,off+i,none⟩) (Nat.lt_trans l (bL hk)) (Nat.ne_of_lt l)).trans c,z0,z1⟩
theorem Rd.draws {w:World} {r B:Nat} (h:Rd w r B) (n:Nat):Rd (w.drewN n) r B:=h.kept (k_drewN (Below.refl _ _) n)
set_option maxRecDepth 100000 in
set_option maxHeartbeats 1000000 in
theorem pick_any (r B:Nat) (n:Int) (w:World) (h:Rd w r B) (hB:B≤1000000) :
  Calls Tryz.prog 36 #[.pointer (some ⟨r,0,none⟩),.int .i64 n] w fun e w'=>∃ k:Int,e=.returned (.int .i64 k)∧InR n k∧Rd w' r (B+1)∧Bk r w w':=by
 have hlt:=h.lt
 obtain ⟨a,len,cap,p,hp,hl,hk,hc⟩:=h
 have c0:w.cell? ⟨r,0,none⟩=some (.slice a len cap):=by simp [World.cell?,hk]
 have c1:w.cell? ⟨r,1,none⟩=some (.int .i64 p):=by simp [World.cell?,hk]
 have f1:w.frozen? ⟨r,1,none⟩=false:=by simp [World.frozen?,hk]
 obtain ⟨N1,N2⟩:=rd_next hp hl hk hc
 have HN1:Hid (Rd (w.setCell ⟨r,1,none⟩ (.int .i64 ((p:Int)+1))) r (B+1)):=N1
 have HN2:Hid (Bk r w (w.setCell ⟨r,1,none⟩ (.int .i64 ((p:Int)+1)))):=N2
 clear N1 N2 hk
 by_cases hn:n < 1
 ·as_aux_lemma =>
   clear hc
   go_enter Tryz.func36,Tryz.ntmps36
   go_wp2
   go_ret
   exact ⟨0,rfl,fun h=>absurd h (by omega),HN1.out,HN2.out⟩
 by_cases hz:len=0
 ·as_aux_lemma =>
   have hz':((len:Int) == 0)=true:=beq_iff_eq.2 (by omega)
   clear hc hz
   go_enter Tryz.func36,Tryz.ntmps36
   go_wp2
   go_ret
   exact ⟨0,rfl,fun h=>by omega,HN1.out,HN2.out⟩
 have hz':((len:Int) == 0)=false:=beq_eq_false_iff_ne.2 (by omega)
 have hn1:1≤n:=by omega
 by_cases hpl:p < len
 ·as_aux_lemma =>
   obtain ⟨b,off,z,rfl,hbr0,hcz,hz0,hz1⟩:=hc p hpl
   have hbr:b ≠ r:=by omega
   have hbl:b < w.heap.size:=by omega
   have c2:∀ v,(w.setCell ⟨r,1,none⟩ v).cell? ⟨b,off+p,none⟩=some (.int .u8 z):=fun v=>((Bk.refl r w).set (p:=⟨r,1,none⟩) (Or.inl rfl) v).cell (p:=⟨b,off+p,none⟩) hbl hbr |>.trans hcz
   clear hc hcz hz hbl
   go_enter Tryz.func36,Tryz.ntmps36
   go_wp2
   go_ret
   exact ⟨_,rfl,fun _=>⟨Int.emod_nonneg _ (by omega),Int.emod_lt_of_pos _ (by omega)⟩,HN1.out,HN2.out⟩
 ·as_aux_lemma =>
   have hm1:p % len < len:=Nat.mod_lt _ (by omega)
   have hm2:(p * 7+3) % len < len:=Nat.mod_lt _ (by omega)
   obtain ⟨b,off,z,rfl,hbr0,hcz,hz0,hz1⟩:=hc _ hm1
   have hbr:b ≠ r:=by omega
   have hbl:b < w.heap.size:=by omega
   obtain ⟨b',off',y,e',hbr',hcy,hy0,hy1⟩:=hc _ hm2
   simp only [Option.some.injEq,Addr.mk.injEq] at e'
   obtain ⟨rfl,rfl,_⟩:=e'
   have c2:∀ v,(w.setCell ⟨r,1,none⟩ v).cell? ⟨b,off+p % len,none⟩=some (.int .u8 z):=fun v=>((Bk.refl r w).set (p:=⟨r,1,none⟩) (Or.inl rfl) v).cell (p:=⟨b,off+p % len,none⟩) hbl hbr |>.trans hcz
   have c3:∀ v,(w.setCell ⟨r,1,none⟩ v).cell? ⟨b,off+(p * 7+3) % len,none⟩=some (.int .u8 y):=fun v=>((Bk.refl r w).set (p:=⟨r,1,none⟩) (Or.inl rfl) v).cell (p:=⟨b,off+(p * 7+3) % len,none⟩) hbl hbr |>.trans hcy
   have i1:0≤((p:Int) * 7+3) % (len:Int):=Int.emod_nonneg _ (by omega)
   have i2:((p:Int) * 7+3) % (len:Int) < (len:Int):=Int.emod_lt_of_pos _ (by omega)
   have i3:(((p:Int) * 7+3) % (len:Int)).toNat=(p * 7+3) % len:=by
    have:((p:Int) * 7+3) % (len:Int)=(((p * 7+3) % len:Nat):Int):=by simp
    rw [this,Int.toNat_natCast]
   clear hc hcz hcy hz hbl hbr'
   go_enter Tryz.func36,Tryz.ntmps36
   go_wp2
   refine wp_region_quiet_lit (by kernel_rfl) (by kernel_rfl) ?_
   repeat (go_big_quiet_step (fail))
   refine wpQuiet_nil ?_
   intro _ hw'
   obtain ⟨nq,hw''⟩:=hw'
   subst hw''
   go_wp2
   go_ret
   refine ⟨_,rfl,?_,HN1.out.draws _,HN2.out.drewN _⟩
   exact pick_math n z y p len hn1 (by omega) hz0 hz1 hy0 hy1
def IsCode (w:World) (a:Option Addr) (len cap:Nat):Prop :=
 len≤cap∧cap≤maxLen∧∀ i,i < len→∃ (b off:Nat) (z:Int),a=some ⟨b,off,none⟩∧b < w.heap.size∧w.cell? ⟨b,off+i,none⟩=some (.int .u8 z)∧0≤z∧z≤255
theorem isCode_nil (w:World):IsCode w none 0 0:=⟨Nat.le_refl _,Nat.zero_le _,fun _ hi=>absurd hi (Nat.not_lt_zero _)⟩
theorem block_of_cell {w:World} {b o:Nat} {v:Value} (h:w.cell? ⟨b,o,none⟩=some v):b < w.heap.size:=by
 rcases Nat.lt_or_ge b w.heap.size with h1 | h1
 ·exact h1
 ·simp [World.cell?,Array.getElem?_eq_none h1] at h
theorem getD_mem {zs:List Int} {i:Nat} (h:i < zs.length):zs.getD i 0 ∈ zs:=by
 have e:zs.getD i 0=zs[i]:=by simp [List.getD,h]
 rw [e];exact List.getElem_mem _
theorem isCode_of {w:World} {x:Addr} {len cap:Nat} {zs:List Int} (hl:len≤cap) (hm:cap≤maxLen) (hz:zs.length=cap) (hcell:∀ i,i < zs.length→w.cell? (x.add i)=some (.int .u8 (zs.getD i 0)))
  (hw:∀ n ∈ zs,(Lit.int .u8 n).wf=true):IsCode w (some x) len cap:=by
 refine ⟨hl,hm,fun i hi=>?_⟩
 obtain ⟨b,off,rfl,hc⟩:=ints_at hcell (by omega)
 have hci:=hc i (by omega)
 have hb:=bounds_u8 (hw _ (getD_mem (zs:=zs) (i:=i) (by omega)))
 exact ⟨b,off,_,rfl,block_of_cell hci,hci,hb.1,hb.2⟩
theorem rd_open {w:World} {a:Option Addr} {len cap:Nat} (L:Nat) (hL:L≤len) (h2:L≤2000)
  (hc:∀ i,i < len→∃ (b off:Nat) (z:Int),a=some ⟨b,off,none⟩∧b < w.heap.size∧w.cell? ⟨b,off+i,none⟩=some (.int .u8 z)∧0≤z∧z≤255) :
  Rd (w.alloc (.cells #[.slice a L cap,.int .i64 0] 124)) w.heap.size 0:=by
 refine ⟨a,L,cap,0,Nat.le_refl _,h2,?_,fun i hi=>?_⟩
 ·show (w.heap.push _)[w.heap.size]?=_
  simp
 ·obtain ⟨b,off,z,e,l,c,z0,z1⟩:=hc i (by omega)
  refine ⟨b,off,z,e,l,?_,z0,z1⟩
  exact ((k_alloc (Below.refl w.heap.size w) _).cell (p:=⟨b,off+i,none⟩) l).trans c
set_option maxRecDepth 100000 in
set_option maxHeartbeats 400000 in
theorem open_any (a:Option Addr) (len cap:Nat) (w:World) (h:IsCode w a len cap) :
  Calls Tryz.prog 34 #[.slice a len cap] w fun e w'=>e=.returned (.pointer (some ⟨w.heap.size,0,none⟩))∧Rd w' w.heap.size 0∧Below w.heap.size w w':=by
 obtain ⟨h1,h2,hc⟩:=h
 unfold maxLen at h2
 by_cases hl:(2000:Int) < (len:Int)
 ·go_enter Tryz.func34,Tryz.ntmps34
  go_wp2
  go_ret
  exact ⟨rfl,rd_open 2000 (by omega) (by omega) hc,k_alloc (Below.refl _ _) _⟩
 ·go_enter Tryz.func34,Tryz.ntmps34
  go_wp2
  go_ret
  exact ⟨rfl,rd_open len (by omega) (by omega) hc,k_alloc (Below.refl _ _) _⟩
def brdOkB (a b:Int):Bool:=decide ((a=0∨a=4)∧b=0∨(1≤a∧a≤3)∧1≤b∧b≤3)
theorem brd_zero (b:Int):brdOkB 0 b=(b == 0):=by rw [Bool.eq_iff_iff];simp [brdOkB]
theorem brd_four (b:Int):brdOkB 4 b=(b == 0):=by rw [Bool.eq_iff_iff];simp [brdOkB];
theorem brd_seen {a:Int} (b:Int) (h1:1≤a) (h2:a≤3):brdOkB a b=inB b 1 3:=by rw [Bool.eq_iff_iff];simp [brdOkB,inB];omega
theorem brd_other {a:Int} (b:Int) (h0:a ≠ 0) (h4:a ≠ 4) (h:¬ (1≤a∧a≤3)):brdOkB a b=false:=by simp [brdOkB];omega
def cellOkB (s:ByteArray) (c r a1 b1 a2 b2 a3 b3 a4 b4:Int):Bool:=txtOkB s && (inB c 1 4 && (inB r 1 4 && (brdOkB a1 b1 && (brdOkB a2 b2 && (brdOkB a3 b3 && brdOkB a4 b4)))))
theorem Hid.mk {p:Prop} (h:p):Hid p:=h
def colB (k n:Int):Bool:=decide (k=0∧n=0∨k=1∧0≤n∧n≤60∨k=2∧1≤n∧n≤100)
theorem colB_0 (n:Int):colB 0 n=inB n 0 0:=by rw [Bool.eq_iff_iff];simp [colB,inB];omega
theorem colB_0' (n:Int):colB 0 n=(n == 0):=by rw [Bool.eq_iff_iff];simp [colB]
theorem colB_1 (n:Int):colB 1 n=inB n 0 60:=by rw [Bool.eq_iff_iff];simp [colB,inB]
theorem colB_2 (n:Int):colB 2 n=inB n 1 100:=by rw [Bool.eq_iff_iff];simp [colB,inB]
theorem colB_no {k:Int} (n:Int) (h0:k ≠ 0) (h1:k ≠ 1) (h2:k ≠ 2):colB k n=false:=by simp [colB];omega
def cB (x:C):Bool:=cellOkB x.s x.c x.r x.a1 x.b1 x.a2 x.b2 x.a3 x.b3 x.a4 x.b4
def rowB (r:R):Bool:=decide (r.cells.length≤5) && r.cells.all cB
def colsB (ps:List (Int × Int)):Bool:=decide (ps.length≤8) && ps.all (fun p=>colB p.1 p.2)
def partsB (n:Nat) (hd ft:Int):Bool:=inB hd 0 n && inB ft 0 (n - hd)
theorem all_true {α:Type} (d:α) (p:α→Bool) (l:List α) (h:∀ j,j < l.length→p (l.getD j d)=true):l.all p=true:=by
 rw [List.all_eq_true]
 intro x hx
 obtain ⟨j,hj,rfl⟩:=List.getElem_of_mem hx
 have e:l.getD j d=l[j]:=by simp [List.getD,hj]
 rw [← e];exact h j hj
theorem all_false {α:Type} (d:α) (p:α→Bool) (l:List α) (k:Nat) (hk:k < l.length) (h:p (l.getD k d)=false):l.all p=false:=by
 have e:l.getD k d=l[k]:=by simp [List.getD,hk]
 rw [e] at h
 cases hb:l.all p with
 | false=>rfl
 | true=>rw [List.all_eq_true.1 hb _ (List.getElem_mem hk)] at h;cases h
theorem next_true {α:Type} {d:α} {p:α→Bool} {l:List α} {k:Nat} (h:∀ j,j < k→p (l.getD j d)=true) (hk:p (l.getD k d)=true):∀ j,j < k+1→p (l.getD j d)=true:=by
 intro j hj
 rcases Nat.lt_or_eq_of_le (Nat.lt_succ_iff.1 hj) with h1 | h1
 ·exact h j h1
 ·rw [h1];exact hk
def tblB (t:T):Bool:=inB t.rows.length 1 8 && (partsB t.rows.length t.head t.foot && (inB t.gap 0 3 && (colsB t.cols && t.rows.all rowB)))
theorem newestO (w:World) (q:Obj):(w.alloc q).heap[w.heap.size]?=some q:=by show (w.heap.push q)[w.heap.size]?=_;simp
theorem fiveO {w:World} {g:Nat} {x0 x1 x2 x3 x4:Value} {t:TypeId} (h:w.heap[g]?=some (.cells #[x0,x1,x2,x3,x4] t)) :
  w.cell? ⟨g,0,none⟩=some x0∧w.cell? ⟨g,1,none⟩=some x1∧w.cell? ⟨g,2,none⟩=some x2∧w.cell? ⟨g,3,none⟩=some x3∧w.cell? ⟨g,4,none⟩=some x4 :=
 ⟨Joins.cell_of_block h 0,Joins.cell_of_block h 1,Joins.cell_of_block h 2,Joins.cell_of_block h 3,Joins.cell_of_block h 4⟩
def partOf (t:T) (q:Int):Int:=if tblB t=true∧inB q 0 (t.rows.length - 1)=true then (if q < t.head then 0 else if t.rows.length - t.foot≤q then 2 else 1) else -1
theorem retIP {a b:Int} (h:a=b):Ending.returned (.int .i64 a)=.returned (.int .i64 b):=by rw [h]
theorem tblB_bounds {t:T} (h:tblB t=true):(1≤t.rows.length∧t.rows.length≤8)∧(0≤t.head∧t.head≤t.rows.length)∧0≤t.foot∧t.foot≤t.rows.length:=by
 simp only [tblB,partsB,Bool.and_eq_true] at h
 have h1:(1:Int)≤t.rows.length∧(t.rows.length:Int)≤8:=of_decide_eq_true h.1
 have h2:0≤t.head∧t.head≤t.rows.length:=of_decide_eq_true h.2.1.1
 have h3:0≤t.foot∧t.foot≤t.rows.length - t.head:=of_decide_eq_true h.2.1.2
 omega
theorem l1Max_any (a b:Int) (w:World):Calls Tryz.prog 85 #[.int .i64 a,.int .i64 b] w fun e w'=>e=.returned (.int .i64 (max a b))∧w'=w:=by
 by_cases h:b < a
 ·have HE:Hid (max a b=a):=Hd (by omega)
  go_enter Tryz.func85,Tryz.ntmps85
  go_wp2
  go_ret
  exact ⟨retI64 HE.out.symm,rfl⟩
 ·have HE:Hid (max a b=b):=Hd (by omega)
  go_enter Tryz.func85,Tryz.ntmps85
  go_wp2
  go_ret
  exact ⟨retI64 HE.out.symm,rfl⟩
set_option maxRecDepth 100000 in
set_option maxHeartbeats 1000000 in
theorem l2End_any (ac ar:Option Addr) (cc cr:Nat) (t:T) (hb:t.rows.length≤8∧0≤t.foot∧t.foot≤t.rows.length) (r:Nat) (w:World) :
  Calls Tryz.prog 86 #[.agg #[.slice ac t.cols.length cc,.int .i64 t.head,.int .i64 t.foot,.slice ar t.rows.length cr,.int .i64 t.gap],.int .i64 (r:Int)] w fun e w'=>e=.returned (.int .i64 (endOf t r))∧Below w.heap.size w w':=by
 obtain ⟨h1,h2,h3⟩:=hb
 by_cases c1:(r:Int) < t.head
 ·have HE:Hid (endOf t r=t.head):=Hd (by unfold endOf;rw [if_pos c1])
  go_enter Tryz.func86,Tryz.ntmps86
  go_wp2
  go_ret
  exact ⟨retI64 HE.out.symm,by repeat (first | exact Below.refl _ _ | apply k_alloc)⟩
 ·by_cases c2:(t.rows.length:Int) - t.foot≤r
  ·have HE:Hid (endOf t r=t.rows.length):=Hd (by unfold endOf;rw [if_neg c1,if_pos c2])
   go_enter Tryz.func86,Tryz.ntmps86
   go_wp2
   go_ret
   exact ⟨retI64 HE.out.symm,by repeat (first | exact Below.refl _ _ | apply k_alloc)⟩
  ·have HE:Hid (endOf t r=t.rows.length - t.foot):=Hd (by unfold endOf;rw [if_neg c1,if_neg c2])
   go_enter Tryz.func86,Tryz.ntmps86
   go_wp2
   go_ret
   exact ⟨retI64 HE.out.symm,by repeat (first | exact Below.refl _ _ | apply k_alloc)⟩
def gcVs (x:GC):List Value:=[.int .i64 x.row,.int .i64 x.col,.int .i64 x.rows,.int .i64 x.cols,.int .i64 x.ins]
def OwnG (w:World) (base:Nat) (v:Value) (gs:List GC):Prop:=w.ownsRow base 78 5 v gs.length (gs.flatMap gcVs)
theorem OwnG.at {w:World} {base:Nat} {v:Value} {gs:List GC} (h:OwnG w base v gs) (hs:∀ x ∈ gs,GOk x):GsAt w base v gs:=by
 rcases h.2 with ⟨rfl,hn⟩ | ⟨g,cap,cur,rfl,hg,hc,h1,h2,_⟩
 ·exact ⟨none,0,by rw [hn],by omega,by unfold maxLen;omega,fun i hi=>by omega⟩
 ·refine ⟨_,cap,rfl,h1,h2,fun i hi=>⟨g,0,rfl,(bL hc),hg,?_,?_⟩⟩
  ·have hx:∀ j,j < 5→w.cell? ⟨g,i * 5+j,none⟩=(gcVs gs[i])[j]?:=fun j hj=>by
    have e:=flat_get gcVs 5 (fun _=>rfl) gs i hi j hj
    rw [row_cell h (u:=(gcVs gs[i])[j]'(by show j < 5;exact hj)) (by rw [e];simp)]
    simp
   rw [getD_get dG hi,Nat.zero_add]
   exact ⟨hx 0 (by omega),hx 1 (by omega),hx 2 (by omega),hx 3 (by omega),hx 4 (by omega)⟩
  ·rw [getD_get dG hi]
   exact hs _ (List.getElem_mem hi)
theorem Stands.gok {n:Nat} {a:GC} (hn:n≤8) (h:Stands n a):GOk a:=by
 unfold Stands at h
 unfold GOk I64
 omega
theorem Stands.sm {n:Nat} {a:GC} (hn:n≤8) (h:Stands n a):Sm a:=by
 unfold Stands at h
 unfold Sm
 omega
theorem infoGC:(Tryz.prog.info? 78).map (fun i=>(i.zero,i.size,i.bytes))=some (some (Value.agg #[.int .i64 0,.int .i64 0,.int .i64 0,.int .i64 0,.int .i64 0]),5,40):=by kernel_rfl
end Go.Proofs.YtojogjlblgcioanGreat
namespace Go.Proofs.YtojogjlblgcioanGreat
open Go.RowKit
def upd (L:Nat→Bool) (i:Nat):Nat→Bool:=fun j=>if j=i then true else L j
theorem upd_ne {L:Nat→Bool} {i j:Nat} (h:(j == i)=false):upd L i j=L j:=by
 unfold upd
 rw [if_neg (fun e=>by rw [e] at h;simp at h)]
theorem un {L:Nat→Bool} {i j:Nat} {b:Bool} (h:upd L i j=b) (e:(j == i)=false:=by rfl):L j=b:=by rwa [upd_ne e] at h
theorem uq {L:Nat→Bool} {i j:Nat} {b:Bool} {P:Prop} (f:L j=b→P) (e:(j == i)=false:=by rfl):upd L i j=b→P:=fun h=>f (un h e)
theorem uf {L:Nat→Bool} {i j:Nat} {P:Prop} (h0:L j=false) (e:(j == i)=false:=by rfl):upd L i j=true→P:=fun h=>absurd (un h e) (by rw [h0];simp)
theorem ub {L:Nat→Bool} {i j a:Nat} {Q X:Nat→Prop} (f:L j=true→∃ g,Q g∧(L a=false→X g)) (e:(j == i)=false:=by rfl) (e2:(a == i)=false:=by rfl):upd L i j=true→∃ g,Q g∧(upd L i a=false→X g):=fun h=>(f (un h e)).elim (fun g hg=>⟨g,hg.1,fun h2=>hg.2 (un h2 e2)⟩)
theorem upd_self {L:Nat→Bool} {i:Nat}:upd L i i=true:=by simp [upd]
def aheadB (ops:Array Oper):Bool:=(List.range ops.size).all fun i=>((ops[i]?).map fun o=>o.after.all fun e=>!Region.binds .any e || decide (e.on < i)).getD true
theorem ahead_all {ops:Array Oper} (h:aheadB ops=true) {listed:Array Bool} (hs:listed.size=ops.size) (hr:Region.ready .any ops listed=[]):∀ i,i < ops.size→listed.getD i false=true:=by
 intro i
 induction i using Nat.strongRecOn with
 | ind i ih =>
  intro hi
  cases hl:listed.getD i false with
  | true=>rfl
  | false =>
   exfalso
   have ho:ops[i]?=some ops[i]:=Array.getElem?_eq_getElem hi
   have h1:=List.all_eq_true.1 h i (List.mem_range.2 hi)
   rw [ho] at h1
   simp only [Option.map_some,Option.getD_some] at h1
   have hm:i ∈ Region.ready .any ops listed:=by
    unfold Region.ready
    rw [List.mem_filter]
    refine ⟨List.mem_range.2 hi,?_⟩
    have h2:listed.getD i true=false:=by
     rw [Array.getD_eq_getD_getElem?,Array.getElem?_eq_getElem (by omega)] at hl ⊢
     exact hl
    rw [h2,ho]
    simp only [Bool.not_false,Bool.true_and,Option.map_some,Option.getD_some]
    rw [Array.all_eq_true_iff_forall_mem]
    intro e he
    have h3:=Array.all_eq_true_iff_forall_mem.1 h1 e he
    cases hbn:Region.binds .any e with
    | false=>simp
    | true =>
     rw [hbn] at h3
     have h4:e.on < i:=by simpa using h3
     rw [ih e.on h4 (by omega)]
     simp
   rw [hr] at hm
   cases hm
theorem listed_set {listed:Array Bool} {i:Nat} (hi:i < listed.size):(fun j=>(listed.setIfInBounds i true).getD j false)=upd (fun j=>listed.getD j false) i:=by
 funext j
 unfold upd
 rw [Array.getD_eq_getD_getElem?]
 by_cases h:j=i
 ·subst h;simp [hi]
 ·rw [if_neg h,Array.getElem?_setIfInBounds_ne (Ne.symm h)]
  exact (Array.getD_eq_getD_getElem? ..).symm
theorem count_set {l:List Bool} {i:Nat} (h:l[i]?=some false):(l.set i true).count false+1=l.count false:=by
 induction l generalizing i with
 | nil=>simp at h
 | cons a t ih =>
  cases i with
  | zero=>simp at h;subst h;simp
  | succ i =>
   simp at h
   have:=ih h
   rw [List.set_cons_succ,List.count_cons,List.count_cons]
   omega
section
variable {P:Program} {ops:Array Oper} {Q:Exit→Act→World→Prop} (J:(Nat→Bool)→Act→World→Prop)
theorem wpAny_inv (hord:aheadB ops=true)
  (hs:∀ (L:Nat→Bool) (a:Act) (w:World) (i:Nat) (o:Oper),J L a w→ops[i]?=some o→L i=false→(∀ e ∈ o.after,Region.binds .any e=true→L e.on=true) →
   ∀ K:Act→World→Prop,(∀ a' w',J (upd L i) a' w'→K a' w')→if Region.wanted o (yielded ops a.tmps)=true then o.wp P a w K Q else K (a.put o.dst undef) w)
  (hd:∀ (L:Nat→Bool) (a:Act) (w:World),J L a w→(∀ i,i < ops.size→L i=true)→Q .normal a w) :
  ∀ (fuel:Nat) (listed:Array Bool) (a:Act) (w:World),listed.size=ops.size→listed.toList.count false≤fuel→J (fun j=>listed.getD j false) a w→wpAny P .any ops Q fuel listed a w:=by
 intro fuel
 induction fuel with
 | zero =>
  intro listed a w hsz hc hJ
  have hall:∀ i,i < ops.size→listed.getD i false=true:=by
   intro i hi
   have h0:listed.toList.count false=0:=by omega
   have hi':i < listed.size:=by omega
   have:=List.count_eq_zero.1 h0
   have hm:listed[i] ∈ listed.toList:=by simp
   rw [Array.getD_eq_getD_getElem?,Array.getElem?_eq_getElem hi',Option.getD_some]
   cases hv:listed[i] with
   | true=>rfl
   | false=>rw [hv] at hm;exact absurd hm this
  refine ⟨?_,hd _ _ _ hJ hall⟩
  unfold Region.ready
  rw [List.filter_eq_nil_iff]
  intro i hi
  have hi2:=List.mem_range.1 hi
  have:=hall i hi2
  have h3:listed.getD i true=true:=by
   rw [Array.getD_eq_getD_getElem?,Array.getElem?_eq_getElem (by omega)] at this ⊢
   exact this
  rw [h3];simp
 | succ fuel ih =>
  intro listed a w hsz hc hJ
  refine ⟨fun hr=>hd _ _ _ hJ (ahead_all hord hsz hr),fun i hi=>?_⟩
  unfold Region.ready at hi
  rw [List.mem_filter] at hi
  obtain ⟨h1,h2⟩:=hi
  have hlt:=List.mem_range.1 h1
  have ho:ops[i]?=some ops[i]:=Array.getElem?_eq_getElem hlt
  rw [ho] at h2
  simp only [Option.map_some,Option.getD_some,Bool.and_eq_true] at h2
  obtain ⟨h3,h4⟩:=h2
  have hil:i < listed.size:=by omega
  have hv:listed[i]=false:=by
   rw [Array.getD_eq_getD_getElem?,Array.getElem?_eq_getElem hil] at h3
   simpa using h3
  have hfi:listed.getD i false=false:=by rw [Array.getD_eq_getD_getElem?,Array.getElem?_eq_getElem hil,hv];rfl
  have hstep:=hs _ a w i ops[i] hJ ho hfi (fun e he hb=>by
   have:=Array.all_eq_true_iff_forall_mem.1 h4 e he
   rw [hb] at this
   simpa using this) (wpAny P .any ops Q fuel (listed.setIfInBounds i true)) (fun a' w' hJ'=>ih _ a' w' (by simpa using hsz) (by
    have:=count_set (l:=listed.toList) (i:=i) (by rw [Array.getElem?_toList,Array.getElem?_eq_getElem hil,hv])
    rw [Array.toList_setIfInBounds]
    omega) (by rw [listed_set hil];exact hJ'))
  unfold wpOp
  rw [ho]
  dsimp only
  split
  ·rename_i hw;rw [if_pos hw] at hstep;exact .inl hstep
  ·rename_i hw;rw [if_neg hw] at hstep;exact hstep
theorem wp_region_inv {id:Nat} {a:Act} {w:World} (hm:P.follows .mixedOrders=true) (hord:aheadB ops=true)
  (hs:∀ (L:Nat→Bool) (a:Act) (w:World) (i:Nat) (o:Oper),J L a w→ops[i]?=some o→L i=false→(∀ e ∈ o.after,Region.binds .any e=true→L e.on=true) →
   ∀ K:Act→World→Prop,(∀ a' w',J (upd L i) a' w'→K a' w')→if Region.wanted o (yielded ops a.tmps)=true then o.wp P a w K Q else K (a.put o.dst undef) w)
  (hd:∀ (L:Nat→Bool) (a:Act) (w:World),J L a w→(∀ i,i < ops.size→L i=true)→Q .normal a w)
  (h0:J (fun _=>false) a w.drew):(Code.region id ops true).wp P Q a w:=by
 refine wp_region_any hm (wpAny_inv J hord hs hd _ _ _ _ (by simp) (by simp) ?_)
 have e:(fun j=>(Array.replicate ops.size false).getD j false)=fun _=>false:=by
  funext j
  rw [Array.getD_eq_getD_getElem?]
  by_cases h:j < ops.size <;> simp [h]
 rw [e]
 exact h0
end
end Go.Proofs.YtojogjlblgcioanGreat
namespace Go.Proofs.YtojogjlblgcioanGreat
open Go.RowKit
def Hp (n0:Nat) (w:World) (g:Nat) (o:Obj):Prop:=n0≤g∧w.heap[g]?=some o
theorem Hp.lt {n0 g:Nat} {w:World} {o:Obj} (h:Hp n0 w g o):g < w.heap.size:=(bL h.2)
theorem Hp.bk {n0 g r:Nat} {w w':World} {o:Obj} (h:Hp n0 w g o) (hr:r < n0) (k:Bk r w w'):Hp n0 w' g o:=⟨h.1,(k.block g h.lt (by have:=h.1;omega)).trans h.2⟩
theorem Hp.alloc {n0 g:Nat} {w:World} {o:Obj} (h:Hp n0 w g o) (q:Obj):Hp n0 (w.alloc q) g o:=⟨h.1,(Below.heap_alloc _ _ _ h.lt).trans h.2⟩
theorem Hp.new {n0:Nat} {w:World} (h:n0≤w.heap.size) (q:Obj):Hp n0 (w.alloc q) w.heap.size q:=⟨h,by show (w.heap.push q)[w.heap.size]?=_;simp⟩
def PI (lo hi:Int) (u:Value):Prop:=∃ k:Int,u=.int .i64 k∧lo≤k∧k≤hi
def PS (n:Nat) (u:Value):Prop:=∃ s:ByteArray,u=.string s∧s.size≤n
def PL (n0:Nat) (w:World) (n:Nat) (arr:Array Value) (u:Value):Prop:=∃ g,u=.slice (some ⟨g,0,none⟩) n n∧Hp n0 w g (.cells arr 3)
def PA (n0:Nat) (w:World) (lo hi:Int) (u:Value):Prop:=∃ g k arr,u=.pointer (some ⟨g,k,none⟩)∧Hp n0 w g (.cells arr 3)∧∃ v:Int,arr[k]?=some (.int .i64 v)∧lo≤v∧v≤hi
theorem PL.bk {n0 n r:Nat} {w w':World} {arr:Array Value} {u:Value} (h:PL n0 w n arr u) (hr:r < n0) (k:Bk r w w'):PL n0 w' n arr u:=by
 obtain ⟨g,e,hg⟩:=h;exact ⟨g,e,hg.bk hr k⟩
theorem PA.bk {n0 r:Nat} {w w':World} {lo hi:Int} {u:Value} (h:PA n0 w lo hi u) (hr:r < n0) (k:Bk r w w'):PA n0 w' lo hi u:=by
 obtain ⟨g,k',arr,e,hg,hv⟩:=h;exact ⟨g,k',arr,e,hg.bk hr k,hv⟩
theorem bk_alloc (r:Nat) (w:World) (o:Obj):Bk r w (w.alloc o):=(Bk.refl r w).alloc o
end Go.Proofs.YtojogjlblgcioanGreat
