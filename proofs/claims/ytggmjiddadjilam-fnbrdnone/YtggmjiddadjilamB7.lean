/-
  PROVED HERE: what it is that a call owns the cells, the columns and the rows of a table: it stays where other blocks are turned; such a table lies in memory. Also: 9 more texts of the same proof.
-/
import Derived.Test.YtggmjiddadjilamB6
set_option maxRecDepth 1000000
set_option maxHeartbeats 40000000
namespace Go.Proofs.Ytggmjiddadjilam
open Go.RowKit
def z0u (x:C):List Value:=[.string x.s,.int .i64 x.c,.int .i64 x.r,.int .i64 x.a1,.int .i64 x.b1,.int .i64 x.a2,.int .i64 x.b2,.int .i64 x.a3,.int .i64 x.b3,.int .i64 x.a4,.int .i64 x.b4]
def z1L (p:Int × Int):List Value:=[.int .i64 p.1,.int .i64 p.2]
def zS (p:Value × R):List Value:=[p.1,.bool p.2.whole]
def z0p (w:World) (base:Nat) (u:Value) (cs:List C):Prop:=w.ownsRow base 35 11 u cs.length (cs.flatMap z0u)
def zF (w:World) (base:Nat) (v:Value) (ps:List (Int × Int)):Prop:=w.ownsRow base 46 2 v ps.length (ps.flatMap z1L)
structure zC (w:World) (base:Nat) (v:Value) (ur:List (Value × R)):Prop where
 own:w.ownsRow base 33 2 v ur.length (ur.flatMap zS)
 cells:∀ p ∈ ur,z0p w base p.1 p.2.cells
 apart:ur.Pairwise fun p q=>p.1.ownBlock=none∨p.1.ownBlock ≠ q.1.ownBlock
structure Off (n:Nat) (b1 b2:Option Nat) (w w':World):Prop where
 size:w.heap.size≤w'.heap.size
 block:∀ k,n≤k→k < w.heap.size→some k ≠ b1→some k ≠ b2→w'.heap[k]?=w.heap[k]?
theorem Off.bk {n r:Nat} {b1 b2:Option Nat} {w w':World} (h:Bk r w w') (hr:r < n):Off n b1 b2 w w':=⟨h.size,fun k hk hl _ _=>h.block k hl (by omega)⟩
theorem Off.grown {n:Nat} {b1 b2:Option Nat} {w w':World} (h:w.grownBy w' b2):Off n b1 b2 w w':=⟨h.size,fun k _ hl _ h2=>h.block k hl h2⟩
theorem Off.set {n g:Nat} {b2:Option Nat} (w:World) (p:Addr) (hp:p.block=g) (v:Value):Off n (some g) b2 w (w.setCell p v):=⟨by simp [World.setCell],fun k _ _ h1 _=>Below.heap_setCell _ _ _ _ (fun e=>h1 (by rw [e,hp]))⟩
theorem z00 {w w':World} {base n:Nat} {e:TypeId} {sz:Nat} {v:Value} {m:Nat} {xs:List Value} {b1 b2:Option Nat} (h:w.ownsRow base e sz v m xs) (k:Off n b1 b2 w w') (hn:n≤base) (h1:v.ownBlock=none∨v.ownBlock ≠ b1) (h2:v.ownBlock=none∨v.ownBlock ≠ b2):w'.ownsRow base e sz v m xs :=
 ⟨h.1,h.2.elim Or.inl (fun ⟨g,cap,cur,hv,hg,hc,q⟩=>Or.inr ⟨g,cap,cur,hv,hg,(k.block g (by omega) (bL hc)
  (fun e=>by subst hv;rcases h1 with h1 | h1 <;> simp [Value.ownBlock] at h1;exact h1 e)
  (fun e=>by subst hv;rcases h2 with h2 | h2 <;> simp [Value.ownBlock] at h2;exact h2 e)).trans hc,q⟩)⟩
theorem z17 {w:World} {base base':Nat} {e e':TypeId} {sz sz':Nat} {v v':Value} {m m':Nat} {xs xs':List Value} (h:w.ownsRow base e sz v m xs) (h':w.ownsRow base' e' sz' v' m' xs') (he:e ≠ e'):v.ownBlock=none∨v.ownBlock ≠ v'.ownBlock:=by
 rcases h.2 with ⟨rfl,_⟩ | ⟨g,cap,cur,rfl,_,hc,_⟩
 ·exact .inl rfl
 ·refine .inr (fun e1=>?_)
  rcases h'.2 with ⟨rfl,_⟩ | ⟨g',cap',cur',rfl,_,hc',_⟩
  ·simp [Value.ownBlock] at e1
  ·simp [Value.ownBlock] at e1;subst e1;rw [hc] at hc';simp at hc';exact he hc'.2
theorem zh {w:World} {base:Nat} {e e':TypeId} {sz:Nat} {v:Value} {m:Nat} {xs:List Value} {g:Nat} {cur:Array Value} (h:w.ownsRow base e sz v m xs) (h':w.heap[g]?=some (.cells cur e')) (he:e ≠ e'):v.ownBlock=none∨v.ownBlock ≠ some g:=by
 rcases h.2 with ⟨rfl,_⟩ | ⟨g',cap,cur',rfl,_,hc,_⟩
 ·exact .inl rfl
 ·refine .inr (fun e1=>?_);simp [Value.ownBlock] at e1;subst e1;rw [hc] at h';simp at h';exact he h'.2
theorem z0d {w:World} {base:Nat} {e:TypeId} {sz:Nat} {v:Value} {m:Nat} {xs:List Value} (h:w.ownsRow base e sz v m xs) {b:Nat} (hb:v.ownBlock=some b):base≤b∧b < w.heap.size:=by
 rcases h.2 with ⟨rfl,_⟩ | ⟨g,cap,cur,rfl,hg,hc,_⟩
 ·simp [Value.ownBlock] at hb
 ·simp [Value.ownBlock] at hb;subst hb;exact ⟨hg,(bL hc)⟩
theorem z0P {w:World} {base base':Nat} {e:TypeId} {sz:Nat} {v:Value} {m:Nat} {xs:List Value} (h:w.ownsRow base e sz v m xs) (hb:base'≤base):w.ownsRow base' e sz v m xs :=
 ⟨h.1,h.2.elim Or.inl (fun ⟨g,cap,cur,hv,hg,q⟩=>Or.inr ⟨g,cap,cur,hv,by omega,q⟩)⟩
theorem zC.off {w w':World} {base n:Nat} {v:Value} {ur:List (Value × R)} {b1 b2:Option Nat} (h:zC w base v ur) (k:Off n b1 b2 w w') (hn:n≤base) (h1:v.ownBlock=none∨v.ownBlock ≠ b1) (h2:v.ownBlock=none∨v.ownBlock ≠ b2)
  (hc:∀ p ∈ ur,(p.1.ownBlock=none∨p.1.ownBlock ≠ b1)∧(p.1.ownBlock=none∨p.1.ownBlock ≠ b2)):zC w' base v ur :=
 ⟨z00 h.own k hn h1 h2,fun p hp=>z00 (h.cells p hp) k hn (hc p hp).1 (hc p hp).2,h.apart⟩
def z7g (v:Value) (b1 b2:Option Nat):Prop:=(v.ownBlock=none∨v.ownBlock ≠ b1)∧(v.ownBlock=none∨v.ownBlock ≠ b2)
theorem z0Q {α:Type} {l:List α} {i:Nat} (d:α) (h:i < l.length):l.getD i d=l[i]:=by simp [List.getD,h]
theorem z0p.at {w:World} {base:Nat} {u:Value} {cs:List C} (h:z0p w base u cs) (hs:∀ x ∈ cs,x.s.size≤61):z0E w base u cs:=by
 rcases h.2 with ⟨rfl,hn⟩ | ⟨g,cap,cur,rfl,hg,hc,h1,h2,_⟩
 ·exact ⟨none,0,by rw [hn],by omega,by unfold maxLen;omega,fun i hi=>by omega⟩
 ·refine ⟨_,cap,rfl,h1,h2,fun i hi=>⟨g,0,rfl,(bL hc),hg,?_,?_⟩⟩
  ·have hx:∀ j,j < 11→w.cell? ⟨g,i * 11+j,none⟩=(z0u cs[i])[j]?:=fun j hj=>by
    have e:=z16 z0u 11 (fun _=>rfl) cs i hi j hj;rw [z1E h (u:=(z0u cs[i])[j]'(by show j < 11;exact hj)) (by rw [e];simp)];simp
   rw [z0Q dC hi,Nat.zero_add];exact ⟨hx 0 (by omega),hx 1 (by omega),hx 2 (by omega),hx 3 (by omega),hx 4 (by omega),hx 5 (by omega),hx 6 (by omega),hx 7 (by omega),hx 8 (by omega),hx 9 (by omega),hx 10 (by omega)⟩
  ·rw [z0Q dC hi];have:=hs _ (List.getElem_mem hi);unfold maxLen;omega
theorem zF.at {w:World} {base:Nat} {u:Value} {ps:List (Int × Int)} (h:zF w base u ps):zY w base u ps:=by
 rcases h.2 with ⟨rfl,hn⟩ | ⟨g,cap,cur,rfl,hg,hc,h1,h2,_⟩
 ·exact ⟨none,0,by rw [hn],by omega,by unfold maxLen;omega,fun i hi=>by omega⟩
 ·refine ⟨_,cap,rfl,h1,h2,fun i hi=>⟨g,0,rfl,(bL hc),hg,?_⟩⟩
  have hx:∀ j,j < 2→w.cell? ⟨g,i * 2+j,none⟩=(z1L ps[i])[j]?:=fun j hj=>by
   have e:=z16 z1L 2 (fun _=>rfl) ps i hi j hj;rw [z1E h (u:=(z1L ps[i])[j]'(by show j < 2;exact hj)) (by rw [e];simp)];simp
  dsimp only;rw [z0Q (0,0) hi,Nat.zero_add];exact ⟨hx 0 (by omega),hx 1 (by omega)⟩
theorem zC.at {w:World} {base:Nat} {v:Value} {ur:List (Value × R)} (h:zC w base v ur) (hs:∀ p ∈ ur,∀ x ∈ p.2.cells,x.s.size≤61):zD w base v (ur.map (·.2)):=by
 have hl:(ur.map (·.2)).length=ur.length:=(by simp)
 rcases h.own.2 with ⟨rfl,hn⟩ | ⟨g,cap,cur,rfl,hg,hc,h1,h2,_⟩
 ·exact ⟨none,0,by rw [hl,hn],by rw [hl];omega,by unfold maxLen;omega,fun i hi=>by rw [hl] at hi;omega⟩
 ·refine ⟨_,cap,by rw [hl],by rw [hl];exact h1,h2,fun i hi=>⟨g,0,rfl,(bL hc),hg,?_⟩⟩;rw [hl] at hi
  have hx:∀ j,j < 2→w.cell? ⟨g,i * 2+j,none⟩=(zS ur[i])[j]?:=fun j hj=>by
   have e:=z16 zS 2 (fun _=>rfl) ur i hi j hj;rw [z1E h.own (u:=(zS ur[i])[j]'(by show j < 2;exact hj)) (by rw [e];simp)];simp
  have hm:=List.getElem_mem hi;dsimp only;rw [z0Q dR (by rw [hl];exact hi),Nat.zero_add,List.getElem_map];exact ⟨ur[i].1,hx 0 (by omega),hx 1 (by omega),(h.cells _ hm).at (hs _ hm)⟩
theorem zC.base {w:World} {base base':Nat} {v:Value} {ur:List (Value × R)} (h:zC w base v ur) (hb:base'≤base):zC w base' v ur:=⟨z0P h.own hb,fun p hp=>z0P (h.cells p hp) hb,h.apart⟩
def z2c (x:GC):List Value:=[.int .i64 x.row,.int .i64 x.col,.int .i64 x.rows,.int .i64 x.cols,.int .i64 x.ins]
def z20 (w:World) (base:Nat) (v:Value) (gs:List GC):Prop:=w.ownsRow base 115 5 v gs.length (gs.flatMap z2c)
theorem z20.at {w:World} {base:Nat} {v:Value} {gs:List GC} (h:z20 w base v gs) (hs:∀ x ∈ gs,GOk x):z03 w base v gs:=by
 rcases h.2 with ⟨rfl,hn⟩ | ⟨g,cap,cur,rfl,hg,hc,h1,h2,_⟩
 ·exact ⟨none,0,by rw [hn],by omega,by unfold maxLen;omega,fun i hi=>by omega⟩
 ·refine ⟨_,cap,rfl,h1,h2,fun i hi=>⟨g,0,rfl,(bL hc),hg,?_,?_⟩⟩
  ·have hx:∀ j,j < 5→w.cell? ⟨g,i * 5+j,none⟩=(z2c gs[i])[j]?:=fun j hj=>by
    have e:=z16 z2c 5 (fun _=>rfl) gs i hi j hj;rw [z1E h (u:=(z2c gs[i])[j]'(by show j < 5;exact hj)) (by rw [e];simp)];simp
   rw [z0Q dG hi,Nat.zero_add];exact ⟨hx 0 (by omega),hx 1 (by omega),hx 2 (by omega),hx 3 (by omega),hx 4 (by omega)⟩
  ·rw [z0Q dG hi];exact hs _ (List.getElem_mem hi)
theorem z0h.gok {n:Nat} {a:GC} (hn:n≤8) (h:z0h n a):GOk a:=by
 unfold z0h at h;unfold GOk I64;omega
theorem z0h.sm {n:Nat} {a:GC} (hn:n≤8) (h:z0h n a):Sm a:=by
 unfold z0h at h;unfold Sm;omega
theorem z5D:(Try.prog.info? 115).map (fun i=>(i.zero,i.size,i.bytes))=some (some (Value.agg #[.int .i64 0,.int .i64 0,.int .i64 0,.int .i64 0,.int .i64 0]),5,40):=by kernel_rfl
def z04 (a b:Int):Bool:=decide ((a=0∨a=4)∧b=0∨(1≤a∧a≤3)∧1≤b∧b≤3)
theorem z49 (b:Int):z04 0 b=(b == 0):=by rw [Bool.eq_iff_iff];simp [z04]
theorem z4a (b:Int):z04 4 b=(b == 0):=by rw [Bool.eq_iff_iff];simp [z04];
theorem z2q {a:Int} (b:Int) (h1:1≤a) (h2:a≤3):z04 a b=inB b 1 3:=by rw [Bool.eq_iff_iff];simp [z04,inB];omega
theorem z3H {a:Int} (b:Int) (h0:a ≠ 0) (h4:a ≠ 4) (h:¬ (1≤a∧a≤3)):z04 a b=false:=by simp [z04];omega
def ch (s:ByteArray) (i:Nat):Int:=if h:i < s.size then (s[i].toNat:Int) else 0
def z0l (s:ByteArray) (i:Nat):Bool:=decide ((ch s i=32→i ≠ 0∧i+1 ≠ s.size∧ch s (i - 1) ≠ 32)∧(ch s i ≠ 32→97≤ch s i∧ch s i≤122))
def z05 (s:ByteArray):Bool:=decide (s.size≤30) && (List.range s.size).all (z0l s)
theorem z3a (s:ByteArray):z05 s=true ↔ s.size≤30∧∀ i,i < s.size→z0l s i=true:=by
 simp [z05,List.all_eq_true]
theorem z2T {s:ByteArray} (h:¬ s.size≤30):z05 s=false:=by simp [z05,h]
theorem z1k {s:ByteArray} (i:Nat) (hi:i < s.size) (h:z0l s i=false):z05 s=false:=by
 cases hb:z05 s with
 | false=>rfl
 | true=>rw [((z3a s).1 hb).2 i hi] at h;cases h
theorem z2r {s:ByteArray} (h30:s.size≤30) (h:∀ i,i < s.size→z0l s i=true):z05 s=true:=(z3a s).2 ⟨h30,h⟩
theorem z54 {s:ByteArray} {i:Nat} (h:i < s.size):ch s i=(s[i].toNat:Int):=by simp [ch,h]
theorem z4b {s:ByteArray} {k:Nat} (h:∀ j,j < k→z0l s j=true) (hk:z0l s k=true):∀ j,j < k+1→z0l s j=true:=by
 intro j hj
 rcases Nat.lt_or_eq_of_le (Nat.lt_succ_iff.1 hj) with h1 | h1
 ·exact h j h1
 ·rw [h1];exact hk
theorem z55 {s:ByteArray} (h:s.size=0):s.toList=[]:=by
 rw [Lib.toList_data];exact List.eq_nil_of_length_eq_zero (by simpa using h)
theorem z69 {s:ByteArray} (h:s.toList=[]):s.size=0:=by
 rw [Lib.toList_data] at h;have:=congrArg List.length h;simpa using this
theorem z0v {a b:Bool} (h:a=b):Ending.returned (.bool a)=.returned (.bool b):=by rw [h]
def bef (s:ByteArray) (k:Nat):Int:=if k=0 then 32 else ch s (k - 1)
def z1M (s:ByteArray) (j:Nat):Prop:=(ch s j=32→bef s j ≠ 32)∧(ch s j ≠ 32→97≤ch s j∧ch s j≤122)
theorem z3b {s:ByteArray} {k:Nat} (h:∀ j,j < k→z1M s j) (hk:z1M s k):∀ j,j < k+1→z1M s j:=by
 intro j hj
 rcases Nat.lt_or_eq_of_le (Nat.lt_succ_iff.1 hj) with h1 | h1
 ·exact h j h1
 ·rw [h1];exact hk
theorem z2U {s:ByteArray} (k:Nat) (hk:k < s.size) (h:¬ z1M s k):z05 s=false:=by
 refine z1k k hk ?_;unfold z1M bef at h;unfold z0l;rw [decide_eq_false_iff_not];intro ⟨h1,h2⟩;apply h;refine ⟨fun e=>?_,h2⟩;obtain ⟨a,_,c⟩:=h1 e;simp [a];exact c
theorem z4C {s:ByteArray} (h30:s.size≤30) (h:∀ j,j < s.size→z1M s j) (hz:s.size ≠ 0) (hl:bef s s.size ≠ 32):z05 s=true:=by
 refine z2r h30 (fun i hi=>?_);have hg:=h i hi;unfold z1M bef at hg;unfold bef at hl;unfold z0l;rw [decide_eq_true_iff];refine ⟨fun e=>?_,hg.2⟩;have h1:=hg.1 e;by_cases i0:i=0
 ·simp [i0] at h1
 ·simp [i0] at h1;refine ⟨i0,fun he=>?_,h1⟩;rw [if_neg hz,← he] at hl;simp at hl;exact hl e
theorem z3Y {s:ByteArray} (hz:s.size=0):z05 s=true:=z2r (by omega) (fun i hi=>by omega)
theorem z4c {s:ByteArray} (hz:s.size ≠ 0) (hl:bef s s.size=32):z05 s=false:=by
 refine z1k (s.size - 1) (by omega) ?_;unfold bef at hl;rw [if_neg hz] at hl;unfold z0l;rw [decide_eq_false_iff_not];intro ⟨h1,_⟩;exact (h1 hl).2.1 (by omega)
theorem z6a {s:ByteArray} {k:Nat} (h:k < s.size):bef s (k+1)=(s[k].toNat:Int):=by simp [bef,ch,h]
theorem z1c (s:ByteArray) (w:World) (hs:s.size≤maxLen) :
  Calls Try.prog 40 #[.string s] w fun e w'=>e=.returned (.bool (z05 s))∧w'=w:=by
 unfold maxLen at hs;by_cases h30:s.size≤30
 ·go_enter Try.func40,Try.ntmps40;go_wp2;go_loop [3,4,10] (fun b _ i=>∃ (k:Nat) (B:Int),k≤s.size∧i=.int .i64 k∧b=.int .u8 B∧Hid (bef s k=B)∧Hid (∀ j,j < k→z1M s j)) (fun _ _ i=>s.size - (intOf i).toNat)
  case atStart=>exact ⟨0,32,Nat.zero_le _,rfl,rfl,rfl,fun j hj=>absurd hj (Nat.not_lt_zero _)⟩
  case round =>
   obtain ⟨k,B,hk,rfl,rfl,HBf,HA⟩:=hrel;by_cases hlt:k < s.size
   ·have hb:(s[k].toNat:Int) < 256:=(by have:=s[k].toNat_lt;omega);have HC:Hid (ch s k=(s[k].toNat:Int)):=z54 hlt;have HS:Hid (bef s (k+1)=(s[k].toNat:Int)):=z6a hlt;by_cases hc:(s[k].toNat:Int)=32
    ·have hc':((s[k].toNat:Int) == 32)=true:=beq_iff_eq.2 hc;have hc2:((s[k].toNat:Int) != 32)=false:=(by rw [bne,hc'];rfl);have HE:Hid (ch s k=32):=HC.out.trans hc;clear hc HC hb;by_cases hB:B=32
     ·as_aux_lemma =>
       have hB':(B == 32)=true:=beq_iff_eq.2 hB;have HF:Hid (z05 s=false):=z2U k hlt (fun hg=>hg.1 HE.out (HBf.out.trans hB));clear hB HE HBf HA HS;go_wp2;go_ret;exact ⟨z0v HF.out.symm,rfl⟩
     ·as_aux_lemma =>
       have hB':(B == 32)=false:=beq_eq_false_iff_ne.2 hB;have HN:Hid (∀ j,j < k+1→z1M s j):=z3b HA.out ⟨fun _=>by rw [HBf.out];exact hB,fun hne=>absurd HE.out hne⟩;clear hB HE HBf HA;go_wp2
       go_round
       case rel=>exact ⟨k+1,_,by omega,by go_num,rfl,HS,HN⟩
       case measure=>simp [intOf];omega
    ·have hc':((s[k].toNat:Int) == 32)=false:=beq_eq_false_iff_ne.2 hc;have hc2:((s[k].toNat:Int) != 32)=true:=bne_iff_ne.2 hc;by_cases hr:97≤(s[k].toNat:Int)∧(s[k].toNat:Int)≤122
     ·as_aux_lemma =>
       have HN:Hid (∀ j,j < k+1→z1M s j):=z3b HA.out ⟨fun he=>absurd (HC.out.symm.trans he) hc,fun _=>by rw [HC.out];exact hr⟩;obtain ⟨hr1,hr2⟩:=hr;clear HC HA hc HBf;go_wp2
       go_round
       case rel=>exact ⟨k+1,_,by omega,by go_num,rfl,HS,HN⟩
       case measure=>simp [intOf];omega
     ·have HF:Hid (z05 s=false):=z2U k hlt (fun hg=>hr (by have:=hg.2 (by rw [HC.out];exact hc);rw [HC.out] at this;exact this));clear HC HA hc HBf HS;by_cases hr1:97≤(s[k].toNat:Int)
      ·as_aux_lemma =>
        have hr2:¬ (s[k].toNat:Int)≤122:=(by omega);clear hr;go_wp2;go_ret;exact ⟨z0v HF.out.symm,rfl⟩
      ·as_aux_lemma =>
        clear hr;go_wp2;go_ret;exact ⟨z0v HF.out.symm,rfl⟩
   ·obtain rfl:k=s.size:=by omega
    by_cases hz:s.size=0
    ·have he:s.toList=[]:=z55 hz;have HF:Hid (z05 s=true):=z3Y hz;clear HBf HA;go_wp2;go_ret;exact ⟨z0v HF.out.symm,rfl⟩
    ·have he:¬ s.toList=[]:=fun h=>hz (z69 h);have he2:s.toList.isEmpty=false:=(by simpa using he);by_cases hB:B=32
     ·have hB':(B != 32)=false:=(by simp [hB]);have HF:Hid (z05 s=false):=z4c hz (HBf.out.trans hB);clear HBf HA hB hz he;go_wp2;go_ret;exact ⟨z0v HF.out.symm,rfl⟩
     ·have hB':(B != 32)=true:=bne_iff_ne.2 hB;have HF:Hid (z05 s=true):=z4C h30 HA.out hz (by rw [HBf.out];exact hB);clear HBf HA hB hz he;go_wp2;go_ret;exact ⟨z0v HF.out.symm,rfl⟩
 ·go_enter Try.func40,Try.ntmps40;go_wp2;go_ret;exact ⟨z0v (z2T h30).symm,rfl⟩
theorem z1d (s:ByteArray) (w:World) (hs:s.size≤maxLen) :
  Calls Try.prog 53 #[.string s] w fun e w'=>e=.returned (.bool (z05 s))∧w'=w:=by
 unfold maxLen at hs;by_cases h30:s.size≤30
 ·go_enter Try.func53,Try.ntmps53;go_wp2;go_loop [3] (fun i=>∃ k:Nat,k≤s.size∧i=.int .i64 k∧∀ j,j < k→z0l s j=true) (fun i=>s.size - (intOf i).toNat)
  case atStart=>exact ⟨0,Nat.zero_le _,rfl,fun j hj=>absurd hj (Nat.not_lt_zero _)⟩
  case round =>
   obtain ⟨k,hk,rfl,hall0⟩:=hrel;have HA:Hid (∀ j,j < k→z0l s j=true):=hall0;clear hall0;by_cases hlt:k < s.size
   ·have hb:(s[k].toNat:Int) < 256:=(by have:=s[k].toNat_lt;omega);have HC:Hid (ch s k=(s[k].toNat:Int)):=z54 hlt;by_cases hc:(s[k].toNat:Int)=32
    ·have hc':((s[k].toNat:Int) == 32)=true:=beq_iff_eq.2 hc;have HE:Hid (ch s k=32):=HC.out.trans hc;clear hc HC hb;by_cases h0:k=0
     ·as_aux_lemma =>
       subst h0;have hbad:z0l s 0=false:=(by simp [z0l,HE.out]);have HB:Hid (z05 s=false):=z1k 0 hlt hbad;clear hbad HE HA;go_wp2;go_ret;exact ⟨z0v HB.out.symm,rfl⟩
     ·have h0':((k:Int) == 0)=false:=beq_eq_false_iff_ne.2 (by omega);by_cases h1:k+1=s.size
      ·as_aux_lemma =>
        have h1':((k:Int) == (s.size:Int) - 1)=true:=beq_iff_eq.2 (by omega);have hbad:z0l s k=false:=(by simp [z0l,HE.out,h1]);have HB:Hid (z05 s=false):=z1k k hlt hbad;clear hbad HE HA h1 h0;go_wp2;go_ret;exact ⟨z0v HB.out.symm,rfl⟩
      ·have h1':((k:Int) == (s.size:Int) - 1)=false:=beq_eq_false_iff_ne.2 (by omega);have hl2:k - 1 < s.size:=(by omega);have HP:Hid (ch s (k - 1)=(s[k - 1].toNat:Int)):=z54 hl2;by_cases hp:(s[k - 1].toNat:Int)=32
       ·as_aux_lemma =>
         have hp':((s[k - 1].toNat:Int) == 32)=true:=beq_iff_eq.2 hp;have hbad:z0l s k=false:=(by simp [z0l,HE.out,HP.out,hp]);have HB:Hid (z05 s=false):=z1k k hlt hbad;clear hbad HE HA HP hp;go_wp2;go_ret;exact ⟨z0v HB.out.symm,rfl⟩
       ·as_aux_lemma =>
         have hp':((s[k - 1].toNat:Int) == 32)=false:=beq_eq_false_iff_ne.2 hp;have hc2:((s[k].toNat:Int) != 32)=false:=(by rw [bne,hc'];rfl);have hgood:z0l s k=true:=(by simp [z0l,HE.out,HP.out,hp,h0,h1]);have HN:Hid (∀ j,j < k+1→z0l s j=true):=z4b HA.out hgood;clear hgood HE HA HP hp;go_wp2
         go_round
         case rel=>exact ⟨k+1,by omega,by go_num,HN.out⟩
         case measure=>simp [intOf];omega
    ·have hc':((s[k].toNat:Int) == 32)=false:=beq_eq_false_iff_ne.2 hc;have hc2:((s[k].toNat:Int) != 32)=true:=bne_iff_ne.2 hc;by_cases hr:97≤(s[k].toNat:Int)∧(s[k].toNat:Int)≤122
     ·as_aux_lemma =>
       obtain ⟨hr1,hr2⟩:=hr;have hgood:z0l s k=true:=(by simp [z0l,HC.out];omega);have HN:Hid (∀ j,j < k+1→z0l s j=true):=z4b HA.out hgood;clear hgood HC HA hc;go_wp2
       go_round
       case rel=>exact ⟨k+1,by omega,by go_num,HN.out⟩
       case measure=>simp [intOf];omega
     ·have hbad:z0l s k=false:=(by simp [z0l,HC.out];omega);have HB:Hid (z05 s=false):=z1k k hlt hbad;clear hbad HC HA hc;by_cases hr1:97≤(s[k].toNat:Int)
      ·as_aux_lemma =>
        have hr2:¬ (s[k].toNat:Int)≤122:=(by omega);clear hr;go_wp2;go_ret;exact ⟨z0v HB.out.symm,rfl⟩
      ·as_aux_lemma =>
        clear hr;go_wp2;go_ret;exact ⟨z0v HB.out.symm,rfl⟩
   ·go_wp2;go_ret;exact ⟨z0v (z2r h30 (fun i hi=>HA.out i (by omega))).symm,rfl⟩
 ·go_enter Try.func53,Try.ntmps53;go_wp2;go_ret;exact ⟨z0v (z2T h30).symm,rfl⟩
def zz (s:ByteArray) (c r a1 b1 a2 b2 a3 b3 a4 b4:Int):Bool:=z05 s && (inB c 1 4 && (inB r 1 4 && (z04 a1 b1 && (z04 a2 b2 && (z04 a3 b3 && z04 a4 b4)))))
theorem Hid.mk {p:Prop} (h:p):Hid p:=h
def z0R (k n:Int):Bool:=decide (k=0∧n=0∨k=1∧0≤n∧n≤60∨k=2∧1≤n∧n≤100)
theorem z6U (n:Int):z0R 0 n=inB n 0 0:=by rw [Bool.eq_iff_iff];simp [z0R,inB];omega
theorem z6I (n:Int):z0R 0 n=(n == 0):=by rw [Bool.eq_iff_iff];simp [z0R]
theorem z5E (n:Int):z0R 1 n=inB n 0 60:=by rw [Bool.eq_iff_iff];simp [z0R,inB]
theorem z5F (n:Int):z0R 2 n=inB n 1 100:=by rw [Bool.eq_iff_iff];simp [z0R,inB]
theorem z4N {k:Int} (n:Int) (h0:k ≠ 0) (h1:k ≠ 1) (h2:k ≠ 2):z0R k n=false:=by simp [z0R];omega
def cB (x:C):Bool:=zz x.s x.c x.r x.a1 x.b1 x.a2 x.b2 x.a3 x.b3 x.a4 x.b4
def z0A (r:R):Bool:=decide (r.cells.length≤5) && r.cells.all cB
def z0X (ps:List (Int × Int)):Bool:=decide (ps.length≤8) && ps.all (fun p=>z0R p.1 p.2)
def z0K (n:Nat) (hd ft:Int):Bool:=inB hd 0 n && inB ft 0 (n - hd)
theorem z1F {α:Type} (d:α) (p:α→Bool) (l:List α) (h:∀ j,j < l.length→p (l.getD j d)=true):l.all p=true:=by
 rw [List.all_eq_true];intro x hx;obtain ⟨j,hj,rfl⟩:=List.getElem_of_mem hx;have e:l.getD j d=l[j]:=(by simp [List.getD,hj]);rw [← e];exact h j hj
theorem z1s {α:Type} (d:α) (p:α→Bool) (l:List α) (k:Nat) (hk:k < l.length) (h:p (l.getD k d)=false):l.all p=false:=by
 have e:l.getD k d=l[k]:=(by simp [List.getD,hk]);rw [e] at h
 cases hb:l.all p with
 | false=>rfl
 | true=>rw [List.all_eq_true.1 hb _ (List.getElem_mem hk)] at h;cases h
theorem z1t {α:Type} {d:α} {p:α→Bool} {l:List α} {k:Nat} (h:∀ j,j < k→p (l.getD j d)=true) (hk:p (l.getD k d)=true):∀ j,j < k+1→p (l.getD j d)=true:=by
 intro j hj
 rcases Nat.lt_or_eq_of_le (Nat.lt_succ_iff.1 hj) with h1 | h1
 ·exact h j h1
 ·rw [h1];exact hk
def zI (t:T):Bool:=inB t.rows.length 1 8 && (z0K t.rows.length t.head t.foot && (inB t.gap 0 3 && (z0X t.cols && t.rows.all z0A)))
theorem z0N (w:World) (q:Obj):(w.alloc q).heap[w.heap.size]?=some q:=by show (w.heap.push q)[w.heap.size]?=_;simp
theorem z0z {w:World} {g:Nat} {x0 x1 x2 x3 x4:Value} {t:TypeId} (h:w.heap[g]?=some (.cells #[x0,x1,x2,x3,x4] t)) :
  w.cell? ⟨g,0,none⟩=some x0∧w.cell? ⟨g,1,none⟩=some x1∧w.cell? ⟨g,2,none⟩=some x2∧w.cell? ⟨g,3,none⟩=some x3∧w.cell? ⟨g,4,none⟩=some x4 :=
 ⟨Joins.cell_of_block h 0,Joins.cell_of_block h 1,Joins.cell_of_block h 2,Joins.cell_of_block h 3,Joins.cell_of_block h 4⟩
def z0S (t:T) (q:Int):Int:=if zI t=true∧inB q 0 (t.rows.length - 1)=true then (if q < t.head then 0 else if t.rows.length - t.foot≤q then 2 else 1) else -1
theorem z3c {a b:Int} (h:a=b):Ending.returned (.int .i64 a)=.returned (.int .i64 b):=by rw [h]
theorem z2d {t:T} (h:zI t=true):(1≤t.rows.length∧t.rows.length≤8)∧(0≤t.head∧t.head≤t.rows.length)∧0≤t.foot∧t.foot≤t.rows.length:=by
 simp only [zI,z0K,Bool.and_eq_true] at h;have h1:(1:Int)≤t.rows.length∧(t.rows.length:Int)≤8:=of_decide_eq_true h.1;have h2:0≤t.head∧t.head≤t.rows.length:=of_decide_eq_true h.2.1.1;have h3:0≤t.foot∧t.foot≤t.rows.length - t.head:=of_decide_eq_true h.2.1.2;omega
def Rd (w:World) (r B:Nat):Prop :=
 ∃ (a:Option Addr) (len cap p:Nat),p≤B∧len≤2000∧w.heap[r]?=some (.cells #[.slice a len cap,.int .i64 p] 95) ∧
  ∀ i,i < len→∃ (b off:Nat) (z:Int),a=some ⟨b,off,none⟩∧b < r∧w.cell? ⟨b,off+i,none⟩=some (.int .u8 z)∧0≤z∧z≤255
theorem Rd.lt {w:World} {r B:Nat} (h:Rd w r B):r < w.heap.size:=by
 obtain ⟨a,len,cap,p,_,_,hb,_⟩:=h;exact (bL hb)
theorem Rd.mono {w:World} {r B B':Nat} (h:Rd w r B) (hB:B≤B'):Rd w r B':=by
 obtain ⟨a,len,cap,p,h1,h⟩:=h;exact ⟨a,len,cap,p,by omega,h⟩
theorem Rd.kept {w w':World} {r B:Nat} (h:Rd w r B) (hb:Below w.heap.size w w'):Rd w' r B:=by
 have hlt:=h.lt;obtain ⟨a,len,cap,p,h1,h2,hk,hc⟩:=h;refine ⟨a,len,cap,p,h1,h2,(hb.block r hlt).trans hk,fun i hi=>?_⟩;obtain ⟨b,off,z,e,l,c,z0,z1⟩:=hc i hi;exact ⟨b,off,z,e,l,(hb.cell (p:=⟨b,off+i,none⟩) (Nat.lt_trans l hlt)).trans c,z0,z1⟩
theorem Rd.keep {w w':World} {r B:Nat} (h:Rd w r B) (hk:∀ k,k≤r→w'.heap[k]?=w.heap[k]?):Rd w' r B:=by
 obtain ⟨a,len,cap,p,h1,h2,hb,hc⟩:=h;refine ⟨a,len,cap,p,h1,h2,(hk r (Nat.le_refl _)).trans hb,fun i hi=>?_⟩;obtain ⟨b,off,z,e,l,c,z0,z1⟩:=hc i hi;exact ⟨b,off,z,e,l,(World.cell?_of_block (w:=w) (a:=⟨b,off+i,none⟩) (hk b (Nat.le_of_lt l))).trans c,z0,z1⟩
theorem Rd.alloc {w:World} {r B:Nat} (h:Rd w r B) (o:Obj):Rd (w.alloc o) r B:=h.kept (zb (Below.refl _ _) _)
theorem Rd.set {w:World} {r B:Nat} (h:Rd w r B) {p:Addr} (hp:r < p.block) (u:Value):Rd (w.setCell p u) r B:=h.keep (fun _ hk=>Below.heap_setCell _ _ _ _ (by omega))
theorem Rd.drew {w:World} {r B:Nat} (h:Rd w r B):Rd w.drew r B:=h.kept (z1O (Below.refl _ _))
def InR (n k:Int):Prop:=1≤n→0≤k∧k < n
theorem z3z (a b:Int) (h1:0≤a) (h2:a < 4611686018427387904) (h3:0≤b) (h4:b < 4611686018427387904):0≤bits .xor .i64 a b:=by
 obtain ⟨A,rfl⟩:=Int.eq_ofNat_of_zero_le h1;obtain ⟨B,rfl⟩:=Int.eq_ofNat_of_zero_le h3;have hx:A ^^^ B < 2 ^ 62:=Nat.xor_lt_two_pow (by omega) (by omega);have e:bits .xor .i64 (A:Int) (B:Int)=IntKind.i64.wrap ((BitVec.ofInt 64 (A:Int) ^^^ BitVec.ofInt 64 (B:Int)).toNat:Int):=rfl;rw [e,BitVec.toNat_xor,ofInt_u64 A (by omega),ofInt_u64 B (by omega)];simp [IntKind.wrap,IntKind.bits,IntKind.signed];omega
theorem z25 {x:Int} (h1:0≤x) (h2:x < 4611686018427387904):wrap64 x=x:=by unfold wrap64;omega
theorem z5G (n z y:Int) (p len:Nat) (hn:1≤n) (hp:p≤1000000) (z0:0≤z) (z1:z≤255) (y0:0≤y) (y1:y≤255) :
  InR n ((bits BinOp.xor IntKind.i64 (wrap64 (z * 131+y * 1117+(p:Int) * 29+wrap64 (wrap64 ((p:Int) / (len:Int)) * 53)))
   (wrap64 ((wrap64 (z * 131+y * 1117+(p:Int) * 29+wrap64 (wrap64 ((p:Int) / (len:Int)) * 53))).tdiv 64))).tmod n):=by
 have q0:0≤(p:Int) / (len:Int):=Int.ediv_nonneg (by omega) (by omega);have q1:(p:Int) / (len:Int)≤p:=Int.ediv_le_self _ (by omega);generalize (p:Int) / (len:Int)=q at q0 q1 ⊢;rw [z25 q0 (by omega),z25 (x:=q * 53) (by omega) (by omega),z25 (x:=z * 131+y * 1117+(p:Int) * 29+q * 53) (by omega) (by omega)];have X0:0≤z * 131+y * 1117+(p:Int) * 29+q * 53:=(by omega);have X1:z * 131+y * 1117+(p:Int) * 29+q * 53 < 4611686018427387904:=(by omega);generalize z * 131+y * 1117+(p:Int) * 29+q * 53=X at X0 X1 ⊢;rw [Int.tdiv_eq_ediv_of_nonneg X0,z25 (x:=X / 64) (by omega) (by omega)];have hx:=z3z X (X / 64) X0 X1 (by omega) (by omega);generalize bits BinOp.xor IntKind.i64 X (X / 64)=Y at hx ⊢;intro _;rw [Int.tmod_eq_emod_of_nonneg hx];exact ⟨Int.emod_nonneg _ (by omega),Int.emod_lt_of_pos _ (by omega)⟩
theorem z6J {w:World} {r B:Nat} {a:Option Addr} {len cap p:Nat} (hp:p≤B) (hl:len≤2000) (hk:w.heap[r]?=some (.cells #[.slice a len cap,.int .i64 p] 95))
  (hc:∀ i,i < len→∃ (b off:Nat) (z:Int),a=some ⟨b,off,none⟩∧b < r∧w.cell? ⟨b,off+i,none⟩=some (.int .u8 z)∧0≤z∧z≤255) :
  Rd (w.setCell ⟨r,1,none⟩ (.int .i64 ((p:Int)+1))) r (B+1)∧Bk r w (w.setCell ⟨r,1,none⟩ (.int .i64 ((p:Int)+1))):=by
 have bk:Bk r w (w.setCell ⟨r,1,none⟩ (.int .i64 ((p:Int)+1))):=(Bk.refl r w).set (Or.inl rfl) _;refine ⟨⟨a,len,cap,p+1,by omega,hl,?_,fun i hi=>?_⟩,bk⟩
 ·rw [Joins.block_setCell hk];simp
 ·obtain ⟨b,off,z,e,l,c,z0,z1⟩:=hc i hi;exact ⟨b,off,z,e,l,(bk.cell (p:=⟨b,off+i,none⟩) (Nat.lt_trans l (bL hk)) (Nat.ne_of_lt l)).trans c,z0,z1⟩
theorem Rd.draws {w:World} {r B:Nat} (h:Rd w r B) (n:Nat):Rd (w.drewN n) r B:=h.kept (z6C (Below.refl _ _) n)
theorem zk (r B:Nat) (n:Int) (w:World) (h:Rd w r B) (hB:B≤1000000) :
  Calls Try.prog 32 #[.pointer (some ⟨r,0,none⟩),.int .i64 n] w fun e w'=>∃ k:Int,e=.returned (.int .i64 k)∧InR n k∧Rd w' r (B+1)∧Bk r w w':=by
 have hlt:=h.lt;obtain ⟨a,len,cap,p,hp,hl,hk,hc⟩:=h;have c0:w.cell? ⟨r,0,none⟩=some (.slice a len cap):=(by simp [World.cell?,hk]);have c1:w.cell? ⟨r,1,none⟩=some (.int .i64 p):=(by simp [World.cell?,hk]);have f1:w.frozen? ⟨r,1,none⟩=false:=(by simp [World.frozen?,hk]);obtain ⟨N1,N2⟩:=z6J hp hl hk hc;have HN1:Hid (Rd (w.setCell ⟨r,1,none⟩ (.int .i64 ((p:Int)+1))) r (B+1)):=N1;have HN2:Hid (Bk r w (w.setCell ⟨r,1,none⟩ (.int .i64 ((p:Int)+1)))):=N2;clear N1 N2 hk;by_cases hn:n < 1
 ·as_aux_lemma =>
   clear hc;go_enter Try.func32,Try.ntmps32;go_wp2;go_ret;exact ⟨0,rfl,fun h=>absurd h (by omega),HN1.out,HN2.out⟩
 by_cases hz:len=0
 ·as_aux_lemma =>
   have hz':((len:Int) == 0)=true:=beq_iff_eq.2 (by omega);clear hc hz;go_enter Try.func32,Try.ntmps32;go_wp2;go_ret;exact ⟨0,rfl,fun h=>by omega,HN1.out,HN2.out⟩
 have hz':((len:Int) == 0)=false:=beq_eq_false_iff_ne.2 (by omega);have hn1:1≤n:=(by omega);by_cases hpl:p < len
 ·as_aux_lemma =>
   obtain ⟨b,off,z,rfl,hbr0,hcz,hz0,hz1⟩:=hc p hpl;have hbr:b ≠ r:=(by omega);have hbl:b < w.heap.size:=(by omega);have c2:∀ v,(w.setCell ⟨r,1,none⟩ v).cell? ⟨b,off+p,none⟩=some (.int .u8 z):=fun v=>((Bk.refl r w).set (p:=⟨r,1,none⟩) (Or.inl rfl) v).cell (p:=⟨b,off+p,none⟩) hbl hbr |>.trans hcz;clear hc hcz hz hbl;go_enter Try.func32,Try.ntmps32;go_wp2;go_ret;exact ⟨_,rfl,fun _=>⟨Int.emod_nonneg _ (by omega),Int.emod_lt_of_pos _ (by omega)⟩,HN1.out,HN2.out⟩
 ·as_aux_lemma =>
   have hm1:p % len < len:=Nat.mod_lt _ (by omega);have hm2:(p * 7+3) % len < len:=Nat.mod_lt _ (by omega);obtain ⟨b,off,z,rfl,hbr0,hcz,hz0,hz1⟩:=hc _ hm1;have hbr:b ≠ r:=(by omega);have hbl:b < w.heap.size:=(by omega);obtain ⟨b',off',y,e',hbr',hcy,hy0,hy1⟩:=hc _ hm2;simp only [Option.some.injEq,Addr.mk.injEq] at e';obtain ⟨rfl,rfl,_⟩:=e';have c2:∀ v,(w.setCell ⟨r,1,none⟩ v).cell? ⟨b,off+p % len,none⟩=some (.int .u8 z):=fun v=>((Bk.refl r w).set (p:=⟨r,1,none⟩) (Or.inl rfl) v).cell (p:=⟨b,off+p % len,none⟩) hbl hbr |>.trans hcz;have c3:∀ v,(w.setCell ⟨r,1,none⟩ v).cell? ⟨b,off+(p * 7+3) % len,none⟩=some (.int .u8 y):=fun v=>((Bk.refl r w).set (p:=⟨r,1,none⟩) (Or.inl rfl) v).cell (p:=⟨b,off+(p * 7+3) % len,none⟩) hbl hbr |>.trans hcy;have i1:0≤((p:Int) * 7+3) % (len:Int):=Int.emod_nonneg _ (by omega);have i2:((p:Int) * 7+3) % (len:Int) < (len:Int):=Int.emod_lt_of_pos _ (by omega)
   have i3:(((p:Int) * 7+3) % (len:Int)).toNat=(p * 7+3) % len:=by
    have:((p:Int) * 7+3) % (len:Int)=(((p * 7+3) % len:Nat):Int):=(by simp);rw [this,Int.toNat_natCast]
   clear hc hcz hcy hz hbl hbr';go_enter Try.func32,Try.ntmps32;go_wp2;refine wp_region_quiet_lit (by kernel_rfl) (by kernel_rfl) ?_;repeat (go_big_quiet_step (fail))
   refine wpQuiet_nil ?_;intro _ hw';obtain ⟨nq,hw''⟩:=hw';subst hw'';go_wp2;go_ret;refine ⟨_,rfl,?_,HN1.out.draws _,HN2.out.drewN _⟩;exact z5G n z y p len hn1 (by omega) hz0 hz1 hy0 hy1
def z1e (w:World) (a:Option Addr) (len cap:Nat):Prop :=
 len≤cap∧cap≤maxLen∧∀ i,i < len→∃ (b off:Nat) (z:Int),a=some ⟨b,off,none⟩∧b < w.heap.size∧w.cell? ⟨b,off+i,none⟩=some (.int .u8 z)∧0≤z∧z≤255
theorem z56 (w:World):z1e w none 0 0:=⟨Nat.le_refl _,Nat.zero_le _,fun _ hi=>absurd hi (Nat.not_lt_zero _)⟩
theorem z3Z {w:World} {b o:Nat} {v:Value} (h:w.cell? ⟨b,o,none⟩=some v):b < w.heap.size:=by
 rcases Nat.lt_or_ge b w.heap.size with h1 | h1
 ·exact h1
 ·simp [World.cell?,Array.getElem?_eq_none h1] at h
theorem z6b {zs:List Int} {i:Nat} (h:i < zs.length):zs.getD i 0 ∈ zs:=by
 have e:zs.getD i 0=zs[i]:=(by simp [List.getD,h]);rw [e];exact List.getElem_mem _
theorem z5H {w:World} {x:Addr} {len cap:Nat} {zs:List Int} (hl:len≤cap) (hm:cap≤maxLen) (hz:zs.length=cap) (hcell:∀ i,i < zs.length→w.cell? (x.add i)=some (.int .u8 (zs.getD i 0)))
  (hw:∀ n ∈ zs,(Lit.int .u8 n).wf=true):z1e w (some x) len cap:=by
 refine ⟨hl,hm,fun i hi=>?_⟩;obtain ⟨b,off,rfl,hc⟩:=ints_at hcell (by omega);have hci:=hc i (by omega);have hb:=bounds_u8 (hw _ (z6b (zs:=zs) (i:=i) (by omega)));exact ⟨b,off,_,rfl,z3Z hci,hci,hb.1,hb.2⟩
theorem z4O {w:World} {a:Option Addr} {len cap:Nat} (L:Nat) (hL:L≤len) (h2:L≤2000)
  (hc:∀ i,i < len→∃ (b off:Nat) (z:Int),a=some ⟨b,off,none⟩∧b < w.heap.size∧w.cell? ⟨b,off+i,none⟩=some (.int .u8 z)∧0≤z∧z≤255) :
  Rd (w.alloc (.cells #[.slice a L cap,.int .i64 0] 95)) w.heap.size 0:=by
 refine ⟨a,L,cap,0,Nat.le_refl _,h2,?_,fun i hi=>?_⟩
 ·show (w.heap.push _)[w.heap.size]?=_;simp
 ·obtain ⟨b,off,z,e,l,c,z0,z1⟩:=hc i (by omega);refine ⟨b,off,z,e,l,?_,z0,z1⟩;exact ((zb (Below.refl w.heap.size w) _).cell (p:=⟨b,off+i,none⟩) l).trans c
theorem z6c (a:Option Addr) (len cap:Nat) (w:World) (h:z1e w a len cap) :
  Calls Try.prog 27 #[.slice a len cap] w fun e w'=>e=.returned (.pointer (some ⟨w.heap.size,0,none⟩))∧Rd w' w.heap.size 0∧Below w.heap.size w w':=by
 obtain ⟨h1,h2,hc⟩:=h;unfold maxLen at h2;by_cases hl:(2000:Int) < (len:Int)
 ·go_enter Try.func27,Try.ntmps27;go_wp2;go_ret;exact ⟨rfl,z4O 2000 (by omega) (by omega) hc,zb (Below.refl _ _) _⟩
 ·go_enter Try.func27,Try.ntmps27;go_wp2;go_ret;exact ⟨rfl,z4O len (by omega) (by omega) hc,zb (Below.refl _ _) _⟩
end Go.Proofs.Ytggmjiddadjilam
