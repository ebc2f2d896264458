/-
  PROVED HERE: as AnyInv's law, and besides: what an operation hangs on has been carried out ahead of it. Also: 7 more texts of the same proof.
-/
import Derived.Test.YtggmjiddadjilamB10
set_option maxRecDepth 1000000
set_option maxHeartbeats 40000000
namespace Go.Proofs.Ytggmjiddadjilam
section
open Go.RowKit
def z3g (ops:Array Oper) (j i:Nat):Bool:=((ops[j]?).map fun o=>o.after.toList.any fun e=>Region.binds .any e && e.on == i).getD false
def z1f (ops:Array Oper) (L:Nat→Bool):Prop:=∀ j i,z3g ops j i=true→L i=false→L j=false
theorem Qh {ops:Array Oper} {L:Nat→Bool} (c:z1f ops L) (j i:Nat) (x:L i=false) (e:z3g ops j i=true:=by kernel_rfl):L j=false:=c j i e x
theorem Fa {w0:Array Edge} {L:Nat→Bool} (h:∀ e ∈ w0,Region.binds .any e=true→L e.on=true) (k:Nat) (m:(⟨k,.data⟩:Edge) ∈ w0:=by simp):L k=true:=h ⟨k,.data⟩ m rfl
theorem z1f.next {ops:Array Oper} {L:Nat→Bool} (h:z1f ops L) {k:Nat} {o:Oper} (ho:ops[k]?=some o) (ha:∀ e ∈ o.after,Region.binds .any e=true→L e.on=true):z1f ops (upd L k):=by
 intro j i he hi;have hik:i ≠ k:=fun e=>by subst e;rw [zH] at hi;cases hi
 have hi':L i=false:=(by simpa [upd,hik] using hi);have hj:=h j i he hi'
 have hjk:j ≠ k:=by
  intro e;subst e;unfold z3g at he;rw [ho] at he;simp only [Option.map_some,Option.getD_some,List.any_eq_true,Bool.and_eq_true,beq_iff_eq] at he;obtain ⟨e,he1,he2,he3⟩:=he;have:=ha e (by simpa using he1) he2;rw [he3,hi'] at this
  cases this
 simpa [upd,hjk] using hj
theorem z0r {P:Program} {ops:Array Oper} {Q:Exit→Act→World→Prop} (J:(Nat→Bool)→Act→World→Prop) {id:Nat} {a:Act} {w:World} (hm:P.follows .mixedOrders=true) (hord:z3d ops=true)
  (hs:∀ (L:Nat→Bool) (a:Act) (w:World) (i:Nat) (o:Oper),J L a w→z1f ops L→ops[i]?=some o→L i=false→(∀ e ∈ o.after,Region.binds .any e=true→L e.on=true) →
   ∀ K:Act→World→Prop,(∀ a' w',J (upd L i) a' w'→K a' w')→if Region.wanted o (yielded ops a.tmps)=true then o.wp P a w K Q else K (a.put o.dst undef) w)
  (hd:∀ (L:Nat→Bool) (a:Act) (w:World),J L a w→(∀ i,i < ops.size→L i=true)→Q .normal a w)
  (h0:J (fun _=>false) a w.drew):(Code.region id ops true).wp P Q a w :=
 z2w (fun L a w=>J L a w∧z1f ops L) hm hord
  (fun L a w i o hJ ho hi ha K hK=>hs L a w i o hJ.1 hJ.2 ho hi ha K (fun a' w' hJ'=>hK a' w' ⟨hJ',hJ.2.next ho ha⟩))
  (fun L a w hJ hall=>hd L a w hJ.1 hall) ⟨h0,fun _ _ _ _=>rfl⟩
end
section

end
section
open Go.RowKit
def PB (n0:Nat) (w:World) (t:TypeId) (m:Nat) (P:Array Value→Prop) (u:Value):Prop:=∃ g arr,u=.slice (some ⟨g,0,none⟩) m m∧Hp n0 w g (.cells arr t)∧P arr
def PP (n0:Nat) (w:World) (t:TypeId) (P:Array Value→Nat→Prop) (u:Value):Prop:=∃ g k arr,u=.pointer (some ⟨g,k,none⟩)∧Hp n0 w g (.cells arr t)∧P arr k
theorem PB.bk {n0 m r:Nat} {w w':World} {t:TypeId} {P:Array Value→Prop} {u:Value} (h:PB n0 w t m P u) (hr:r < n0) (k:Bk r w w'):PB n0 w' t m P u:=by
 obtain ⟨g,arr,e,hg,hp⟩:=h;exact ⟨g,arr,e,hg.bk hr k,hp⟩
theorem PP.bk {n0 r:Nat} {w w':World} {t:TypeId} {P:Array Value→Nat→Prop} {u:Value} (h:PP n0 w t P u) (hr:r < n0) (k:Bk r w w'):PP n0 w' t P u:=by
 obtain ⟨g,i,arr,e,hg,hp⟩:=h;exact ⟨g,i,arr,e,hg.bk hr k,hp⟩
theorem zO {w w':World} {base r:Nat} {e:TypeId} {sz:Nat} {v:Value} {m:Nat} {xs:List Value} (h:w.ownsRow base e sz v m xs) (k:Bk r w w') (hr:r < base):w'.ownsRow base e sz v m xs :=
 ⟨h.1,h.2.elim Or.inl (fun ⟨g,cap,cur,hv,hg,hc,q⟩=>Or.inr ⟨g,cap,cur,hv,hg,(k.block g (bL hc) (by omega)).trans hc,q⟩)⟩
theorem Bk.grown {r:Nat} {a b c:World} {u:Option Nat} (h:Bk r a b) (k:b.grownBy c u) (hu:∀ i,u=some i→a.heap.size≤i):Bk r a c :=
 ⟨k.os.trans h.os,k.tape.trans h.tape,k.output.trans h.output,Nat.le_trans h.size k.size,fun i hi hr=>(k.block i (Nat.lt_of_lt_of_le hi h.size) (fun e=>by have:=hu i e.symm;omega)).trans (h.block i hi hr)⟩
theorem Rd.grown {r B:Nat} {b c:World} {u:Option Nat} (h:Rd b r B) (k:b.grownBy c u) (hu:∀ i,u=some i→r < i):Rd c r B :=
 h.keep (fun i hi=>k.block i (Nat.lt_of_le_of_lt hi h.lt) (fun e=>by have:=hu i e.symm;omega))
theorem zB {b c:World} {u:Option Nat} {g:Nat} {o:Obj} (h:b.heap[g]?=some o) (k:b.grownBy c u) (hu:some g ≠ u):c.heap[g]?=some o :=
 (k.block g (bL h) hu).trans h
theorem zG {v:Value} {g:Nat} (h:v.ownBlock=none∨v.ownBlock ≠ some g):some g ≠ v.ownBlock:=fun e=>by
 rcases h with h | h
 ·rw [h] at e;cases e
 ·exact h e.symm
theorem zV {w:World} {base:Nat} {e e':TypeId} {sz:Nat} {v:Value} {m:Nat} {xs:List Value} {g p:Nat} {cur:Array Value} (h:w.ownsRow base e sz v m xs) (h':w.heap[g]?=some (.cells cur e')) (he:e ≠ e') (u:Value):(w.setCell ⟨g,p,none⟩ u).ownsRow base e sz v m xs :=
 z00 (n:=base) (b1:=some g) (b2:=none) h (Off.set w ⟨g,p,none⟩ rfl u) (Nat.le_refl _) (zh h h' he) (by cases v.ownBlock <;> simp)
def z2s (n0 tb:Nat) (u:Value) (F:World→Prop):Prop:=∀ w w',F w→Off n0 (some tb) u.ownBlock w w'→F w'
def Cx (x:C):Prop:=x.s.size≤61∧(x.r≤3∨x.r=5)
theorem z77 (a b k:Int) (h0:0≤k) (h1:k < 4):∃ x y:Int,(#[.int .i64 0,.int .i64 0,.int .i64 0,.int .i64 0,.int .i64 1,.int .i64 a,.int .i64 2,.int .i64 b]:Array Value)[k.toNat * 2]?=some (.int .i64 x)∧(#[.int .i64 0,.int .i64 0,.int .i64 0,.int .i64 0,.int .i64 1,.int .i64 a,.int .i64 2,.int .i64 b]:Array Value)[k.toNat * 2+1]?=some (.int .i64 y):=by
 rcases (by omega:k=0∨k=1∨k=2∨k=3) with rfl | rfl | rfl | rfl
 ·exact ⟨0,0,rfl,rfl⟩
 ·exact ⟨0,0,rfl,rfl⟩
 ·exact ⟨1,a,rfl,rfl⟩
 ·exact ⟨2,b,rfl,rfl⟩
theorem z4Q:(Try.prog.info? 46).map (fun i=>(i.zero,i.size,i.bytes))=some (some (Value.agg #[.int .i64 0,.int .i64 0]),2,16):=by kernel_rfl
theorem z4e:(Try.prog.info? 35).map (fun i=>(i.zero,i.size,i.bytes))=some (some (Value.agg #[.string ⟨#[]⟩,.int .i64 0,.int .i64 0,.int .i64 0,.int .i64 0,.int .i64 0,.int .i64 0,.int .i64 0,.int .i64 0,.int .i64 0,.int .i64 0]),11,96):=by kernel_rfl
theorem z4R:(Try.prog.info? 33).map (fun i=>(i.zero,i.size,i.bytes))=some (some (Value.agg #[.slice none 0 0,.bool false]),2,32):=by kernel_rfl
def z0B (L:Nat→Bool):Nat:=(if L 5=true then 1 else 0)+(if L 9=true then 1 else 0)+(if L 15=true then 1 else 0)
theorem z1T (L:Nat→Bool):z0B L≤3:=by unfold z0B;(repeat (first | omega | split))
theorem z5M {L:Nat→Bool} (h:L 5=false):z0B (upd L 5)=z0B L+1:=by simp [z0B,upd,h];omega
theorem z5N {L:Nat→Bool} (h:L 9=false):z0B (upd L 9)=z0B L+1:=by simp [z0B,upd,h];omega
theorem z58 {L:Nat→Bool} (h:L 15=false):z0B (upd L 15)=z0B L+1:=by simp [z0B,upd,h]
theorem zE {L:Nat→Bool} {i:Nat} (h:i ≠ 5∧i ≠ 9∧i ≠ 15):z0B (upd L i)=z0B L:=by
 have k5:(5:Nat) ≠ i:=fun e=>(h.1) e.symm;have k9:(9:Nat) ≠ i:=fun e=>(h.2.1) e.symm;have k15:(15:Nat) ≠ i:=fun e=>(h.2.2) e.symm;simp [z0B,upd,k5,k9,k15]
structure z78 (r B n0:Nat) (w0:World) (F:World→Prop) (base:Nat) (U:Value) (nn:Nat) (xs:List Value) (tb:Nat) (tc:Array Value)  (L:Nat→Bool) (w:World) (v18 v19 v20 v21 v22 v23 v24 v25 v26 v27 v28 v29 v30 v31 v32 v33 v34 v35 v36 v37 v38:Value):Prop where
 f0:L 0=true→v18=.pointer (some ⟨tb,0,none⟩)
 f1:L 1=true→v19=U
 f2:L 2=true→v20=.agg #[.int .i64 0,.int .i64 0]
 f3:L 3=true→v21=.agg #[.int .i64 0,.int .i64 0]
 f4:L 4=true→v22=.pointer (some ⟨r,0,none⟩)
 f5:L 5=true→PI 0 29 v23
 f6:L 6=true→∃ k:Int,v24=.agg #[.int .i64 1,.int .i64 k]
 f7:L 7=true→L 19=false→PB n0 w 3 4 (fun arr=>arr=#[.int .i64 10,.int .i64 25,.int .i64 50,.int .i64 100]) v25
 f8:L 8=true→v26=.pointer (some ⟨r,0,none⟩)
 f9:L 9=true→PI 0 3 v27
 f10:L 10=true→L 19=false→PP n0 w 3 (fun arr k=>∃ v:Int,arr[k]?=some (.int .i64 v)) v28
 f11:L 11=true→∃ v:Int,v29=.int .i64 v
 f12:L 12=true→∃ v:Int,v30=.agg #[.int .i64 2,.int .i64 v]
 f13:L 13=true→L 19=false→PB n0 w 46 4 (fun arr=>∃ a b:Int,arr=#[.int .i64 0,.int .i64 0,.int .i64 0,.int .i64 0,.int .i64 1,.int .i64 a,.int .i64 2,.int .i64 b]) v31
 f14:L 14=true→v32=.pointer (some ⟨r,0,none⟩)
 f15:L 15=true→PI 0 3 v33
 f16:L 16=true→L 19=false→PP n0 w 46 (fun arr k=>∃ x y:Int,arr[k]?=some (.int .i64 x)∧arr[k+1]?=some (.int .i64 y)) v34
 f17:L 17=true→∃ x y:Int,v35=.agg #[.int .i64 x,.int .i64 y]
 f18:L 18=true→L 19=false→PB n0 w 46 1 (fun arr=>∃ x y:Int,arr=#[.int .i64 x,.int .i64 y]) v36
 f20:L 20=true→v38=.pointer (some ⟨tb,0,none⟩)
 rd:Rd w r (B+z0B L)
 bk:Bk r w0 w
 fr:F w
 own:L 19=false→w.ownsRow base 46 2 U nn xs
 ownA:L 19=true→∃ nw,(∃ p,nw=z1L p)∧w.ownsRow base 46 2 v37 (nn+1) (xs ++ nw)
 tb0:L 21=false→w.heap[tb]?=some (.cells tc 26)
 tb1:L 21=true→w.heap[tb]?=some (.cells (tc.setIfInBounds (0) v37) 26)
def z7k (r B n0:Nat) (w0:World) (F:World→Prop) (base:Nat) (U:Value) (nn:Nat) (xs:List Value) (tb:Nat) (tc:Array Value)  (mk:Value→Value→Value→Value→Value→Value→Value→Value→Value→Value→Value→Value→Value→Value→Value→Value→Value→Value→Value→Value→Value→Act) (L:Nat→Bool) (a:Act) (w:World):Prop:=∃ v18 v19 v20 v21 v22 v23 v24 v25 v26 v27 v28 v29 v30 v31 v32 v33 v34 v35 v36 v37 v38:Value,a=mk v18 v19 v20 v21 v22 v23 v24 v25 v26 v27 v28 v29 v30 v31 v32 v33 v34 v35 v36 v37 v38∧z78 r B n0 w0 F base U nn xs tb tc L w v18 v19 v20 v21 v22 v23 v24 v25 v26 v27 v28 v29 v30 v31 v32 v33 v34 v35 v36 v37 v38
def z1n (L:Nat→Bool):Nat:=(if L 3=true then 50 else 0)
theorem z3h (L:Nat→Bool):z1n L≤50:=by unfold z1n;(repeat (first | omega | split))
theorem z5O {L:Nat→Bool} (h:L 3=false):z1n (upd L 3)=z1n L+50:=by simp [z1n,upd,h]
theorem z0T {L:Nat→Bool} {i:Nat} (h:i ≠ 3):z1n (upd L i)=z1n L:=by
 have k3:(3:Nat) ≠ i:=fun e=>(h) e.symm;simp [z1n,upd,k3]
structure z79 (r B n0:Nat) (w0:World) (F:World→Prop) (base:Nat) (U:Value) (nn:Nat) (xs:List Value) (tb:Nat) (tc:Array Value)  (L:Nat→Bool) (w:World) (v57 v58 v59 v60 v61 v62 v63:Value):Prop where
 f0:L 0=true→v57=.pointer (some ⟨tb,0,none⟩)
 f1:L 1=true→v58=U
 f2:L 2=true→v59=.pointer (some ⟨r,0,none⟩)
 f3:L 3=true→∃ x:C,v60=.agg #[.string x.s,.int .i64 x.c,.int .i64 x.r,.int .i64 x.a1,.int .i64 x.b1,.int .i64 x.a2,.int .i64 x.b2,.int .i64 x.a3,.int .i64 x.b3,.int .i64 x.a4,.int .i64 x.b4]∧Cx x
 f4:L 4=true→L 5=false→PB n0 w 35 1 (fun arr=>∃ x:C,arr=(z0u x).toArray∧Cx x) v61
 f6:L 6=true→v63=.pointer (some ⟨tb,0,none⟩)
 rd:Rd w r (B+z1n L)
 bk:Bk r w0 w
 fr:F w
 own:L 5=false→w.ownsRow base 35 11 U nn xs
 ownA:L 5=true→∃ nw,(∃ x,nw=z0u x∧Cx x)∧w.ownsRow base 35 11 v62 (nn+1) (xs ++ nw)
 tb0:L 7=false→w.heap[tb]?=some (.cells tc 33)
 tb1:L 7=true→w.heap[tb]?=some (.cells (tc.setIfInBounds (0) v62) 33)
def z7l (r B n0:Nat) (w0:World) (F:World→Prop) (base:Nat) (U:Value) (nn:Nat) (xs:List Value) (tb:Nat) (tc:Array Value)  (mk:Value→Value→Value→Value→Value→Value→Value→Act) (L:Nat→Bool) (a:Act) (w:World):Prop:=∃ v57 v58 v59 v60 v61 v62 v63:Value,a=mk v57 v58 v59 v60 v61 v62 v63∧z79 r B n0 w0 F base U nn xs tb tc L w v57 v58 v59 v60 v61 v62 v63
theorem z1g (a b:Int) (w:World) :
  Calls Try.prog 74 #[.agg #[.int .i64 a,.int .i64 b]] w fun e w'=>e=.returned (.bool (z04 a b))∧w'=w.alloc (.cells #[.int .i64 a,.int .i64 b] 30):=by
 by_cases h0:a=0
 ·subst h0;go_enter Try.func74,Try.ntmps74;go_wp2;go_ret;exact ⟨zr (z49 b).symm,rfl⟩
 by_cases h4:a=4
 ·subst h4;go_enter Try.func74,Try.ntmps74;go_wp2;go_ret;exact ⟨zr (z4a b).symm,rfl⟩
 have e0:(a == 0)=false:=beq_eq_false_iff_ne.2 h0;have e4:(a == 4)=false:=beq_eq_false_iff_ne.2 h4;by_cases h:1≤a∧a≤3
 ·have hi:inB a 1 3=true:=z2l h.1 h.2;have HB:Hid (z04 a b=inB b 1 3):=z2q b h.1 h.2;clear h h0 h4;go_enter Try.func74,Try.ntmps74;go_wp2_with (go_at_call 30;refine (z06 _ _ _ _).mono ?_;rintro e w' ⟨rfl,rfl⟩)
  go_ret;exact ⟨zr HB.out.symm,rfl⟩
 ·have hi:inB a 1 3=false:=z1P h;have HB:Hid (z04 a b=false):=z3H b h0 h4 h;clear h h0 h4;go_enter Try.func74,Try.ntmps74;go_wp2_with (go_at_call 30;refine (z06 _ _ _ _).mono ?_;rintro e w' ⟨rfl,rfl⟩)
  go_ret;exact ⟨zr HB.out.symm,rfl⟩
theorem z3i (s:ByteArray) (c r a1 b1 a2 b2 a3 b3 a4 b4:Int) (w:World) (hs:s.size≤maxLen) :
  Calls Try.prog 47 #[.agg #[.string s,.int .i64 c,.int .i64 r,.int .i64 a1,.int .i64 b1,.int .i64 a2,.int .i64 b2,.int .i64 a3,.int .i64 b3,.int .i64 a4,.int .i64 b4]] w fun e w'=>e=.returned (.bool (zz s c r a1 b1 a2 b2 a3 b3 a4 b4))∧Below w.heap.size w w':=by
 cases h0:z05 s
 ·
  as_aux_lemma =>
   have HB:Hid (zz s c r a1 b1 a2 b2 a3 b3 a4 b4=false):=Hid.mk (by simp [zz,h0]);go_enter Try.func47,Try.ntmps47;go_wp2_with (first | (go_at_call 53;refine (z1d _ _ hs).mono ?_;rintro e w' ⟨rfl,rfl⟩) | (go_at_call 30;refine (z06 _ _ _ _).mono ?_;rintro e w' ⟨rfl,rfl⟩) | (go_at_call 74;refine (z1g _ _ _).mono ?_;rintro e w' ⟨rfl,rfl⟩))
   go_ret;exact ⟨zr HB.out.symm,by repeat (first | exact Below.refl _ _ | apply zb)⟩
 cases h1:inB c 1 4
 ·
  as_aux_lemma =>
   have HB:Hid (zz s c r a1 b1 a2 b2 a3 b3 a4 b4=false):=Hid.mk (by simp [zz,h0,h1]);go_enter Try.func47,Try.ntmps47;go_wp2_with (first | (go_at_call 53;refine (z1d _ _ hs).mono ?_;rintro e w' ⟨rfl,rfl⟩) | (go_at_call 30;refine (z06 _ _ _ _).mono ?_;rintro e w' ⟨rfl,rfl⟩) | (go_at_call 74;refine (z1g _ _ _).mono ?_;rintro e w' ⟨rfl,rfl⟩))
   go_ret;exact ⟨zr HB.out.symm,by repeat (first | exact Below.refl _ _ | apply zb)⟩
 cases h2:inB r 1 4
 ·
  as_aux_lemma =>
   have HB:Hid (zz s c r a1 b1 a2 b2 a3 b3 a4 b4=false):=Hid.mk (by simp [zz,h0,h1,h2]);go_enter Try.func47,Try.ntmps47;go_wp2_with (first | (go_at_call 53;refine (z1d _ _ hs).mono ?_;rintro e w' ⟨rfl,rfl⟩) | (go_at_call 30;refine (z06 _ _ _ _).mono ?_;rintro e w' ⟨rfl,rfl⟩) | (go_at_call 74;refine (z1g _ _ _).mono ?_;rintro e w' ⟨rfl,rfl⟩))
   go_ret;exact ⟨zr HB.out.symm,by repeat (first | exact Below.refl _ _ | apply zb)⟩
 cases h3:z04 a1 b1
 ·
  as_aux_lemma =>
   have HB:Hid (zz s c r a1 b1 a2 b2 a3 b3 a4 b4=false):=Hid.mk (by simp [zz,h0,h1,h2,h3]);go_enter Try.func47,Try.ntmps47;go_wp2_with (first | (go_at_call 53;refine (z1d _ _ hs).mono ?_;rintro e w' ⟨rfl,rfl⟩) | (go_at_call 30;refine (z06 _ _ _ _).mono ?_;rintro e w' ⟨rfl,rfl⟩) | (go_at_call 74;refine (z1g _ _ _).mono ?_;rintro e w' ⟨rfl,rfl⟩))
   go_ret;exact ⟨zr HB.out.symm,by repeat (first | exact Below.refl _ _ | apply zb)⟩
 cases h4:z04 a2 b2
 ·
  as_aux_lemma =>
   have HB:Hid (zz s c r a1 b1 a2 b2 a3 b3 a4 b4=false):=Hid.mk (by simp [zz,h0,h1,h2,h3,h4]);go_enter Try.func47,Try.ntmps47;go_wp2_with (first | (go_at_call 53;refine (z1d _ _ hs).mono ?_;rintro e w' ⟨rfl,rfl⟩) | (go_at_call 30;refine (z06 _ _ _ _).mono ?_;rintro e w' ⟨rfl,rfl⟩) | (go_at_call 74;refine (z1g _ _ _).mono ?_;rintro e w' ⟨rfl,rfl⟩))
   go_ret;exact ⟨zr HB.out.symm,by repeat (first | exact Below.refl _ _ | apply zb)⟩
 cases h5:z04 a3 b3
 ·
  as_aux_lemma =>
   have HB:Hid (zz s c r a1 b1 a2 b2 a3 b3 a4 b4=false):=Hid.mk (by simp [zz,h0,h1,h2,h3,h4,h5]);go_enter Try.func47,Try.ntmps47;go_wp2_with (first | (go_at_call 53;refine (z1d _ _ hs).mono ?_;rintro e w' ⟨rfl,rfl⟩) | (go_at_call 30;refine (z06 _ _ _ _).mono ?_;rintro e w' ⟨rfl,rfl⟩) | (go_at_call 74;refine (z1g _ _ _).mono ?_;rintro e w' ⟨rfl,rfl⟩))
   go_ret;exact ⟨zr HB.out.symm,by repeat (first | exact Below.refl _ _ | apply zb)⟩
 as_aux_lemma =>
  have HB:Hid (zz s c r a1 b1 a2 b2 a3 b3 a4 b4=z04 a4 b4):=Hid.mk (by simp [zz,h0,h1,h2,h3,h4,h5]);go_enter Try.func47,Try.ntmps47;go_wp2_with (first | (go_at_call 53;refine (z1d _ _ hs).mono ?_;rintro e w' ⟨rfl,rfl⟩) | (go_at_call 30;refine (z06 _ _ _ _).mono ?_;rintro e w' ⟨rfl,rfl⟩) | (go_at_call 74;refine (z1g _ _ _).mono ?_;rintro e w' ⟨rfl,rfl⟩))
  go_ret;exact ⟨zr HB.out.symm,by repeat (first | exact Below.refl _ _ | apply zb)⟩
theorem z3I (k n:Int) (w:World) :
  Calls Try.prog 46 #[.agg #[.int .i64 k,.int .i64 n]] w fun e w'=>e=.returned (.bool (z0R k n))∧Below w.heap.size w w':=by
 by_cases h0:k=0
 ·subst h0;have HC:=Hd (z6I n);go_enter Try.func46,Try.ntmps46;go_wp2;go_ret;exact ⟨zr HC.out.symm,by repeat (first | refine zb ?_ _ | exact Below.refl _ _)⟩
 by_cases h1:k=1
 ·subst h1;have HC:=Hd (z5E n);go_enter Try.func46,Try.ntmps46;go_wp2_with (go_at_call 30;refine (z06 _ _ _ _).mono ?_;rintro e w' ⟨rfl,rfl⟩)
  go_ret;exact ⟨zr HC.out.symm,by repeat (first | refine zb ?_ _ | exact Below.refl _ _)⟩
 by_cases h2:k=2
 ·subst h2;have HC:=Hd (z5F n);go_enter Try.func46,Try.ntmps46;go_wp2_with (go_at_call 30;refine (z06 _ _ _ _).mono ?_;rintro e w' ⟨rfl,rfl⟩)
  go_ret;exact ⟨zr HC.out.symm,by repeat (first | refine zb ?_ _ | exact Below.refl _ _)⟩
 have e0:(k == 0)=false:=beq_eq_false_iff_ne.2 h0;have e1:(k == 1)=false:=beq_eq_false_iff_ne.2 h1;have e2:(k == 2)=false:=beq_eq_false_iff_ne.2 h2;have HC:=Hd (z4N n h0 h1 h2);clear h0 h1 h2;go_enter Try.func46,Try.ntmps46;go_wp2;go_ret;exact ⟨zr HC.out.symm,by repeat (first | refine zb ?_ _ | exact Below.refl _ _)⟩
theorem z59 {ps:List (Int × Int)} (h:¬ ps.length≤8):z0X ps=false:=by simp [z0X,h]
theorem z5P {r:R} (h:¬ r.cells.length≤5):z0A r=false:=by simp [z0A,h]
theorem z6g {n:Nat} {hd ft:Int} (h:inB hd 0 n=false):z0K n hd ft=false:=by rw [z0K,h];rfl
theorem z6h {n:Nat} {hd ft:Int} (h:inB ft 0 (n - hd)=false):z0K n hd ft=false:=by rw [z0K,h,Bool.and_false]
theorem z6i {n:Nat} {hd ft:Int} (h:inB hd 0 n=true) (h':inB ft 0 (n - hd)=true):z0K n hd ft=true:=by rw [z0K,h,h'];rfl
theorem z5Q {t:T} (h:t.rows.all z0A=false):zI t=false:=by simp only [zI,h,Bool.and_false]
theorem z3J {t:T} (h:z0X t.cols=false):zI t=false:=by simp only [zI,h,Bool.and_false,Bool.false_and]
theorem z3K (ac ar:Option Addr) (cc cr:Nat) (t:T) (w:World) {z:Nat} (hc:zY w z (.slice ac t.cols.length cc) t.cols) (hr:zD w z (.slice ar t.rows.length cr) t.rows) :
  Calls Try.prog 19 #[.agg #[.slice ac t.cols.length cc,.int .i64 t.head,.int .i64 t.foot,.slice ar t.rows.length cr,.int .i64 t.gap]] w fun e w'=>e=.returned (.bool (zI t))∧Below w.heap.size w w':=by
 have HC:=Hd hc;have HR:=Hd hr;clear hc hr;have K0:=Hd (zb (Below.refl w.heap.size w) (.cells #[.slice ac t.cols.length cc,.int .i64 t.head,.int .i64 t.foot,.slice ar t.rows.length cr,.int .i64 t.gap] 26))
 cases h0:inB t.rows.length 1 8
 ·have HF:Hid (zI t=false):=Hd (by rw [zI,h0];rfl);go_enter Try.func19,Try.ntmps19;go_wp2_with (go_at_call 30;refine (z06 _ _ _ _).mono ?_;rintro e w' ⟨rfl,rfl⟩)
  go_ret;exact ⟨zr HF.out.symm,zb (Below.refl _ _) _⟩
 have hN:1≤(t.rows.length:Int)∧(t.rows.length:Int)≤8:=of_decide_eq_true h0;obtain ⟨hN1,hN2⟩:=hN;by_cases c8:(8:Int) < (t.cols.length:Int)
 ·have HF:Hid (zI t=false):=Hd (z3J (z59 (by omega)));go_enter Try.func19,Try.ntmps19;go_wp2_with (go_at_call 30;refine (z06 _ _ _ _).mono ?_;rintro e w' ⟨rfl,rfl⟩)
  go_ret;exact ⟨zr HF.out.symm,zb (Below.refl _ _) _⟩
 have c8':t.cols.length≤8:=(by omega)
 cases h1:inB t.head 0 t.rows.length
 ·have HF:Hid (zI t=false):=Hd (by simp only [zI,z6g h1,Bool.false_and,Bool.and_false]);go_enter Try.func19,Try.ntmps19;go_wp2_with (go_at_call 30;refine (z06 _ _ _ _).mono ?_;rintro e w' ⟨rfl,rfl⟩)
  go_ret;exact ⟨zr HF.out.symm,zb (Below.refl _ _) _⟩
 have hH:0≤t.head∧t.head≤t.rows.length:=of_decide_eq_true h1;obtain ⟨hH1,hH2⟩:=hH
 cases h2:inB t.foot 0 (t.rows.length - t.head)
 ·have HF:Hid (zI t=false):=Hd (by simp only [zI,z6h h2,Bool.false_and,Bool.and_false]);go_enter Try.func19,Try.ntmps19;go_wp2_with (go_at_call 30;refine (z06 _ _ _ _).mono ?_;rintro e w' ⟨rfl,rfl⟩)
  go_ret;exact ⟨zr HF.out.symm,zb (Below.refl _ _) _⟩
 cases h3:inB t.gap 0 3
 ·have HF:Hid (zI t=false):=Hd (by simp only [zI,h3,Bool.false_and,Bool.and_false]);go_enter Try.func19,Try.ntmps19;go_wp2_with (go_at_call 30;refine (z06 _ _ _ _).mono ?_;rintro e w' ⟨rfl,rfl⟩)
  go_ret;exact ⟨zr HF.out.symm,zb (Below.refl _ _) _⟩
 have HT:Hid (zI t=(z0X t.cols && t.rows.all z0A)):=Hd (by rw [zI,h0,z6i h1 h2,h3];rfl);go_enter Try.func19,Try.ntmps19;go_wp2_with (go_at_call 30;refine (z06 _ _ _ _).mono ?_;rintro e w' ⟨rfl,rfl⟩)
 clear h0 h1 h2 h3;go_loopw [3] (fun i W=>∃ k:Nat,k≤t.cols.length∧i=.int .i64 k∧Hid (∀ j,j < k→(fun p:Int × Int=>z0R p.1 p.2) (t.cols.getD j (0,0))=true)∧Hid (Below (w.alloc (.cells #[.slice ac t.cols.length cc,.int .i64 t.head,.int .i64 t.foot,.slice ar t.rows.length cr,.int .i64 t.gap] 26)).heap.size (w.alloc (.cells #[.slice ac t.cols.length cc,.int .i64 t.head,.int .i64 t.foot,.slice ar t.rows.length cr,.int .i64 t.gap] 26)) W)) (fun i _=>t.cols.length - (intOf i).toNat)
 case atStart=>exact ⟨0,Nat.zero_le _,rfl,fun j hj=>absurd hj (Nat.not_lt_zero _),Below.refl _ _⟩
 case round =>
  obtain ⟨k,hk,rfl,HA,HL⟩:=hrel;obtain ⟨m0,m1,m2,m3,m4⟩:=z0z ((HL.out.block w.heap.size (by simp)).trans (z0N _ _));by_cases hlt:k < t.cols.length
  ·obtain ⟨b,off,cap',e',hc1,hc2,hbl,hx0,hx1⟩:=At.get (HC.out.kept (ze K0.out HL.out)) hlt;simp only [Value.slice.injEq,true_and] at e';obtain ⟨rfl,rfl⟩:=e';unfold maxLen at hc2
   cases hv:z0R (t.cols.getD k (0,0)).1 (t.cols.getD k (0,0)).2
   ·have HF:Hid (zI t=false):=Hd (z3J (by rw [z0X,z1s (0,0) (fun p:Int × Int=>z0R p.1 p.2) t.cols k hlt hv,Bool.and_false]));generalize t.cols.getD k (0,0)=x at hx0 hx1 hv;go_wp2_with fail
    refine (z3I _ _ _).mono ?_;rw [hv];rintro e w1 ⟨rfl,hb1⟩;have K1:=Hd (ze (ze K0.out HL.out) hb1);clear hb1;go_wp2;go_ret;exact ⟨zr HF.out.symm,K1.out⟩
   ·have HN:=Hd (z1t (p:=fun p:Int × Int=>z0R p.1 p.2) HA.out hv);generalize t.cols.getD k (0,0)=x at hx0 hx1 hv;go_wp2_with fail
    refine (z3I _ _ _).mono ?_;rw [hv];rintro e w1 ⟨rfl,hb1⟩;have K1:=Hd (ze HL.out hb1);clear hb1;go_wp2;go_roundw
    case rel=>exact ⟨k+1,by omega,by go_num,HN,K1⟩
    case measure=>simp [intOf];omega
  ·obtain rfl:k=t.cols.length:=by omega
   have HCt:Hid (z0X t.cols=true):=Hd (by rw [z0X,z1F (0,0) (fun p:Int × Int=>z0R p.1 p.2) t.cols HA.out];simp [c8']);go_wp2_with fail
   go_loopw [4,5] (fun i _ W=>∃ k:Nat,k≤t.rows.length∧i=.int .i64 k∧Hid (∀ j,j < k→z0A (t.rows.getD j dR)=true)∧Hid (Below (w.alloc (.cells #[.slice ac t.cols.length cc,.int .i64 t.head,.int .i64 t.foot,.slice ar t.rows.length cr,.int .i64 t.gap] 26)).heap.size (w.alloc (.cells #[.slice ac t.cols.length cc,.int .i64 t.head,.int .i64 t.foot,.slice ar t.rows.length cr,.int .i64 t.gap] 26)) W)) (fun i _ _=>t.rows.length - (intOf i).toNat)
   case atStart=>exact ⟨0,Nat.zero_le _,rfl,fun j hj=>absurd hj (Nat.not_lt_zero _),HL⟩
   case round =>
    obtain ⟨q,hq,rfl,HA2,HL2⟩:=hrel;clear m0 m1 m2 m3 m4;obtain ⟨m0,m1,m2,m3,m4⟩:=z0z ((HL2.out.block w.heap.size (by simp)).trans (z0N _ _));by_cases hlq:q < t.rows.length
    ·obtain ⟨b,off,cap',e',hc1,hc2,hbl,u,hx0,hx1,hx⟩:=At.get (HR.out.kept (ze K0.out HL2.out)) hlq;simp only [Value.slice.injEq,true_and] at e';obtain ⟨rfl,rfl⟩:=e';unfold maxLen at hc2;obtain ⟨ua,ucap,rfl,hul⟩:=At.form hx;unfold maxLen at hul;have HX:=Hd hx;clear hx;have HRF:=Hd (fun hb=>z5Q (z1s dR z0A t.rows q hlq hb));have HRN:=Hd (fun hb=>z1t (d:=dR) (p:=z0A) (l:=t.rows) (k:=q) HA2.out hb);generalize hxx:t.rows.getD q dR=x at hx0 hx1 hul HX HRF HRN;clear hxx;by_cases h5:(5:Int) < (x.cells.length:Int)
     ·have HF:Hid (zI t=false):=Hd (HRF.out (z5P (by omega)));go_wp2;go_ret;exact ⟨zr HF.out.symm,ze K0.out HL2.out⟩
     ·have h5':x.cells.length≤5:=(by omega);go_wp2_with fail
      obtain ⟨wo,rfl⟩:∃ wo:World,wo=wr:=⟨_,rfl⟩;go_loopw [5] (fun i W=>∃ p:Nat,p≤x.cells.length∧i=.int .i64 p∧Hid (∀ j,j < p→cB (x.cells.getD j dC)=true)∧Hid (Below (w.alloc (.cells #[.slice ac t.cols.length cc,.int .i64 t.head,.int .i64 t.foot,.slice (some ⟨b,off,none⟩) t.rows.length cr,.int .i64 t.gap] 26)).heap.size (w.alloc (.cells #[.slice ac t.cols.length cc,.int .i64 t.head,.int .i64 t.foot,.slice (some ⟨b,off,none⟩) t.rows.length cr,.int .i64 t.gap] 26)) W)∧Hid (Below wo.heap.size wo W)) (fun i _=>x.cells.length - (intOf i).toNat)
      case atStart=>exact ⟨0,Nat.zero_le _,rfl,fun j hj=>absurd hj (Nat.not_lt_zero _),HL2,Below.refl _ _⟩
      case round =>
       obtain ⟨p,hp,rfl,HA3,HL3,HO⟩:=hrel;clear m0 m1 m2 m3 m4;obtain ⟨m0,m1,m2,m3,m4⟩:=z0z ((HL3.out.block w.heap.size (by simp)).trans (z0N _ _));have hy0:=(HO.out.cell (p:=⟨b,off+q * 2,none⟩) hbl).trans hx0;clear hx0 hx1;by_cases hlp:p < x.cells.length
       ·obtain ⟨b2,z2e,cap2,e2,hd1,hd2,hbl2,hz,hs⟩:=At.get (HX.out.kept HO.out) hlp;simp only [Value.slice.injEq,true_and] at e2;obtain ⟨rfl,rfl⟩:=e2;unfold maxLen at hd2;have hs':=Hd hs;clear hs
        cases hv:cB (x.cells.getD p dC)
        ·have HF:Hid (zI t=false):=Hd (HRF.out (by rw [z0A,z1s dC cB x.cells p hlp hv,Bool.and_false]));generalize x.cells.getD p dC=y at hz hs' hv;obtain ⟨x0,x1,x2,x3,x4,x5,x6,x7,x8,x9,x10⟩:=hz;go_wp2_with fail
         refine (z3i _ _ _ _ _ _ _ _ _ _ _ _ hs'.out).mono ?_;rw [show zz y.s y.c y.r y.a1 y.b1 y.a2 y.b2 y.a3 y.b3 y.a4 y.b4=false from hv];rintro e w1 ⟨rfl,hb1⟩;have K1:=Hd (ze (ze K0.out HL3.out) hb1);clear hb1;go_wp2;go_ret;exact ⟨zr HF.out.symm,K1.out⟩
        ·have HN:=Hd (z1t HA3.out hv);generalize x.cells.getD p dC=y at hz hs' hv;obtain ⟨x0,x1,x2,x3,x4,x5,x6,x7,x8,x9,x10⟩:=hz;go_wp2_with fail
         refine (z3i _ _ _ _ _ _ _ _ _ _ _ _ hs'.out).mono ?_;rw [show zz y.s y.c y.r y.a1 y.b1 y.a2 y.b2 y.a3 y.b3 y.a4 y.b4=true from hv];rintro e w1 ⟨rfl,hb1⟩;have K1:=Hd (ze HL3.out hb1);have O1:=Hd (ze HO.out hb1);clear hb1;go_wp2;go_roundw
         case rel=>exact ⟨p+1,by omega,by go_num,HN,K1,O1⟩
         case measure=>simp [intOf];omega
       ·obtain rfl:p=x.cells.length:=by omega
        have HN:=Hd (HRN.out (by rw [z0A,z1F dC cB x.cells HA3.out];simp [h5']));go_wp2;go_roundw
        case rel=>exact ⟨q+1,by omega,by go_num,HN,HL3⟩
        case measure=>simp [intOf];omega
    ·obtain rfl:q=t.rows.length:=by omega
     have HF:Hid (zI t=true):=Hd (by rw [HT.out,HCt.out,z1F dR z0A t.rows HA2.out];rfl);go_wp2;go_ret;exact ⟨zr HF.out.symm,ze K0.out HL2.out⟩
end
end Go.Proofs.Ytggmjiddadjilam
