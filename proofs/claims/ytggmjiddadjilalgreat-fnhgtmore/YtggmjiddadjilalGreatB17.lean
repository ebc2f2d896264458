/-
  PROVED HERE: small facts for the model's l3Of: what stays of a table and a grid of the call's own; what holds between two operations of its first statement. Also: 9 more texts of the same proof.
-/
import Derived.Test.YtggmjiddadjilalGreatB16
set_option maxRecDepth 1000000
set_option maxHeartbeats 40000000
namespace Go.Proofs.YtggmjiddadjilalGreat
open Value (int)
open IntKind (i64)
open Go.RowKit
structure OfJ (n0:Nat) (W0:World) (ac ar:Option Addr) (cc cr:Nat) (t:T) (L:Nat->Bool) (w:World) (v3 v8 v9 v10 v11 v12 v13 v14 v15:Value):Prop where
 f0:L 0=true->v8=.pointer (some ⟨n0,3,none⟩)
 f1:L 1=true->v9=.slice ar t.rows.length cr
 f2:L 2=true->v10=int i64 (t.rows.length:Int)
 f3:L 3=true->v11=.pointer (some ⟨n0,0,none⟩)
 f4:L 4=true->v12=.slice ac t.cols.length cc
 f5:L 5=true->v13=int i64 (t.cols.length:Int)
 f6:L 6=true->v14=int i64 (max 1 (t.cols.length:Int))
 f7:L 7=true->v15=.agg #[int i64 (t.rows.length:Int),int i64 (max 1 (t.cols.length:Int)),.slice none 0 0]
 f8:L 8=true->∃ g,v3=.pointer (some ⟨g,0,none⟩)/\W0.heap.size<=g/\(L 9=false->w.heap[g]?=some (.cells #[int i64 0,int i64 0,.slice none 0 0] 68))
 f9:L 9=true->∃ g,v3=.pointer (some ⟨g,0,none⟩)/\W0.heap.size<=g/\w.heap[g]?=some (.cells #[int i64 (t.rows.length:Int),int i64 (max 1 (t.cols.length:Int)),.slice none 0 0] 68)
 o9:L 9=true->L 8=true
 bk:Below W0.heap.size W0 w
def ofJ (n0:Nat) (W0:World) (ac ar:Option Addr) (cc cr:Nat) (t:T) (mk:Value->Value->Value->Value->Value->Value->Value->Value->Value->Act) (L:Nat->Bool) (a:Act) (w:World):Prop:=∃ v3 v8 v9 v10 v11 v12 v13 v14 v15:Value,a=mk v3 v8 v9 v10 v11 v12 v13 v14 v15/\OfJ n0 W0 ac ar cc cr t L w v3 v8 v9 v10 v11 v12 v13 v14 v15
theorem z6j {w:World} {g:Nat} {x0 x1 x2:Value} {t:TypeId} (h:w.heap[g]?=some (.cells #[x0,x1,x2] t)) :
  (w.cell? ⟨g,0,none⟩=some x0/\w.cell? ⟨g,1,none⟩=some x1/\w.cell? ⟨g,2,none⟩=some x2)/\w.frozen? ⟨g,0,none⟩=false/\w.frozen? ⟨g,1,none⟩=false/\w.frozen? ⟨g,2,none⟩=false :=
 ⟨⟨zf h,zf h,zf h⟩,zr h,zr h,zr h⟩
structure SG (w:World) (gb:Nat) (ac ar:Option Addr) (cc cr:Nat) (t:T) (C:Int) (vg:Value) (gs:List GC) (W:World):Prop where
 bel:Below w.heap.size w W
 tbl:W.heap[w.heap.size]?=some (.cells #[.slice ac t.cols.length cc,int i64 t.head,int i64 t.foot,.slice ar t.rows.length cr,int i64 t.gap] 26)
 res:W.heap[w.heap.size+1]?=some (.cells #[int i64 0,int i64 0,.slice none 0 0] 68)
 grd:W.heap[gb]?=some (.cells #[int i64 (t.rows.length:Int),int i64 C,vg] 68)
 own:z9y W (w.heap.size+2) vg gs
theorem z3Q {w:World} {g:Nat} {x0 x1 x2 x3 x4:Value} {t:TypeId} (h:w.heap[g]?=some (.cells #[x0,x1,x2,x3,x4] t)) :
  (w.cell? ⟨g,0,none⟩=some x0/\w.cell? ⟨g,1,none⟩=some x1/\w.cell? ⟨g,2,none⟩=some x2/\w.cell? ⟨g,3,none⟩=some x3/\w.cell? ⟨g,4,none⟩=some x4)/\w.frozen? ⟨g,0,none⟩=false/\w.frozen? ⟨g,1,none⟩=false/\w.frozen? ⟨g,2,none⟩=false/\w.frozen? ⟨g,3,none⟩=false/\w.frozen? ⟨g,4,none⟩=false :=
 ⟨⟨zf h,zf h,zf h,zf h,zf h⟩,zr h,zr h,zr h,zr h,zr h⟩
theorem z1q {w w':World} {g:Nat} {o:Obj} (h:w.heap[g]?=some o) (hb:Below w.heap.size w w'):w'.heap[g]?=some o:=(hb.block g (bL h)).trans h
theorem ze4 {w w':World} {base:Nat} {e:TypeId} {sz:Nat} {v:Value} {m:Nat} {xs:List Value} (h:w.ownsRow base e sz v m xs) (k:Below w.heap.size w w'):w'.ownsRow base e sz v m xs :=
 ⟨h.1,h.2.elim Or.inl (fun ⟨g,cap,cur,hv,hg,hc,q⟩=>Or.inr ⟨g,cap,cur,hv,hg,z1q hc k,q⟩)⟩
theorem SG.kept {w W W':World} {gb:Nat} {ac ar:Option Addr} {cc cr:Nat} {t:T} {C:Int} {vg:Value} {gs:List GC} (h:SG w gb ac ar cc cr t C vg gs W) (k:Below W.heap.size W W'):SG w gb ac ar cc cr t C vg gs W' :=
 ⟨h.bel.trans (k.mono h.bel.size),z1q h.tbl k,z1q h.res k,z1q h.grd k,ze4 h.own k⟩
theorem zf6 {v:Value} {g:Nat} (h:∀ b,v.ownBlock=some b->b ≠ g):some g ≠ v.ownBlock:=fun e=>h g e.symm rfl
theorem SG.bkc {w W W':World} {gb cb:Nat} {ac ar:Option Addr} {cc cr:Nat} {t:T} {C:Int} {vg:Value} {gs:List GC} (h:SG w gb ac ar cc cr t C vg gs W) (k:Bk cb W W') (hcb:w.heap.size+2<=cb) (hne:gb ≠ cb) (hv:∀ b,vg.ownBlock=some b->b ≠ cb):SG w gb ac ar cc cr t C vg gs W' :=
 ⟨h.bel.trans (k.below h.bel.size (by omega)),(k.block _ (bL h.tbl) (by omega)).trans h.tbl,(k.block _ (bL h.res) (by omega)).trans h.res,(k.block _ (bL h.grd) hne).trans h.grd,
  z05 (n:=w.heap.size+2) (b1:=some cb) (b2:=none) h.own ⟨k.size,fun j _ hj h1 _=>k.block j hj (fun e=>h1 (by rw [e]))⟩ (Nat.le_refl _) (by
   cases hb:vg.ownBlock with
   | none=>exact .inl rfl
   | some b=>exact .inr (fun e=>by injection e with e;exact hv b hb e)) (by cases vg.ownBlock <;> simp)⟩
theorem z2O (a b:Int) (w:World) :
  Calls Tryz.prog 81 #[.agg #[int i64 a,int i64 b]] w fun e w'=>e=.returned (.bool (z0H a b))/\w'=w.alloc (.cells #[int i64 a,int i64 b] 34):=by
 by_cases h0:a=0
 ·subst h0;go_enter Tryz.func81,Tryz.ntmps81;go_wp2;go_ret;exact ⟨zU (z9z b).symm,rfl⟩
 by_cases h4:a=4
 ·subst h4;go_enter Tryz.func81,Tryz.ntmps81;go_wp2;go_ret;exact ⟨zU (z9A b).symm,rfl⟩
 by_cases h1:a=1
 ·subst h1;go_enter Tryz.func81,Tryz.ntmps81;go_wp2_with (go_at_call 22;refine (zA _ _ _ _).mono ?_;rintro e w' ⟨rfl,rfl⟩)
  go_ret;exact ⟨zU (z5v b (by omega) (by omega)).symm,rfl⟩
 by_cases h2:a=2
 ·subst h2;go_enter Tryz.func81,Tryz.ntmps81;go_wp2_with (go_at_call 22;refine (zA _ _ _ _).mono ?_;rintro e w' ⟨rfl,rfl⟩)
  go_ret;exact ⟨zU (z5v b (by omega) (by omega)).symm,rfl⟩
 by_cases h3:a=3
 ·subst h3;go_enter Tryz.func81,Tryz.ntmps81;go_wp2_with (go_at_call 22;refine (zA _ _ _ _).mono ?_;rintro e w' ⟨rfl,rfl⟩)
  go_ret;exact ⟨zU (z5v b (by omega) (by omega)).symm,rfl⟩
 have e0:(a == 0)=false:=beq_eq_false_iff_ne.2 h0;have e1:(a == 1)=false:=beq_eq_false_iff_ne.2 h1;have e2:(a == 2)=false:=beq_eq_false_iff_ne.2 h2;have e3:(a == 3)=false:=beq_eq_false_iff_ne.2 h3;have e4:(a == 4)=false:=beq_eq_false_iff_ne.2 h4;have HB:Hid (z0H a b=false):=z8w b h0 h4 (by omega);clear h0 h1 h2 h3 h4;go_enter Tryz.func81,Tryz.ntmps81;go_wp2;go_ret;exact ⟨zU HB.out.symm,rfl⟩
theorem z7J (s:ByteArray) (c r a1 b1 a2 b2 a3 b3 a4 b4:Int) (w:World) (hs:s.size<=maxLen) :
  Calls Tryz.prog 64 #[.agg #[.string s,int i64 c,int i64 r,int i64 a1,int i64 b1,int i64 a2,int i64 b2,int i64 a3,int i64 b3,int i64 a4,int i64 b4]] w fun e w'=>e=.returned (.bool (zR s c r a1 b1 a2 b2 a3 b3 a4 b4))/\Below w.heap.size w w':=by
 cases h0:zC s
 ·
  as_aux_lemma =>
   have HB:Hid (zR s c r a1 b1 a2 b2 a3 b3 a4 b4=false):=Hid.mk (by simp [zR,h0]);go_enter Tryz.func64,Tryz.ntmps64;go_wp2_with (first | (go_at_call 26;refine (z1f _ _ hs).mono ?_;rintro e w' ⟨rfl,rfl⟩) | (go_at_call 22;refine (zA _ _ _ _).mono ?_;rintro e w' ⟨rfl,rfl⟩) | (go_at_call 81;refine (z2O _ _ _).mono ?_;rintro e w' ⟨rfl,rfl⟩))
   go_ret;exact ⟨zU HB.out.symm,by repeat (first | exact Below.refl _ _ | apply ze)⟩
 cases h1:inB c 1 4
 ·
  as_aux_lemma =>
   have HB:Hid (zR s c r a1 b1 a2 b2 a3 b3 a4 b4=false):=Hid.mk (by simp [zR,h0,h1]);go_enter Tryz.func64,Tryz.ntmps64;go_wp2_with (first | (go_at_call 26;refine (z1f _ _ hs).mono ?_;rintro e w' ⟨rfl,rfl⟩) | (go_at_call 22;refine (zA _ _ _ _).mono ?_;rintro e w' ⟨rfl,rfl⟩) | (go_at_call 81;refine (z2O _ _ _).mono ?_;rintro e w' ⟨rfl,rfl⟩))
   go_ret;exact ⟨zU HB.out.symm,by repeat (first | exact Below.refl _ _ | apply ze)⟩
 cases h2:inB r 1 4
 ·
  as_aux_lemma =>
   have HB:Hid (zR s c r a1 b1 a2 b2 a3 b3 a4 b4=false):=Hid.mk (by simp [zR,h0,h1,h2]);go_enter Tryz.func64,Tryz.ntmps64;go_wp2_with (first | (go_at_call 26;refine (z1f _ _ hs).mono ?_;rintro e w' ⟨rfl,rfl⟩) | (go_at_call 22;refine (zA _ _ _ _).mono ?_;rintro e w' ⟨rfl,rfl⟩) | (go_at_call 81;refine (z2O _ _ _).mono ?_;rintro e w' ⟨rfl,rfl⟩))
   go_ret;exact ⟨zU HB.out.symm,by repeat (first | exact Below.refl _ _ | apply ze)⟩
 cases h3:z0H a1 b1
 ·
  as_aux_lemma =>
   have HB:Hid (zR s c r a1 b1 a2 b2 a3 b3 a4 b4=false):=Hid.mk (by simp [zR,h0,h1,h2,h3]);go_enter Tryz.func64,Tryz.ntmps64;go_wp2_with (first | (go_at_call 26;refine (z1f _ _ hs).mono ?_;rintro e w' ⟨rfl,rfl⟩) | (go_at_call 22;refine (zA _ _ _ _).mono ?_;rintro e w' ⟨rfl,rfl⟩) | (go_at_call 81;refine (z2O _ _ _).mono ?_;rintro e w' ⟨rfl,rfl⟩))
   go_ret;exact ⟨zU HB.out.symm,by repeat (first | exact Below.refl _ _ | apply ze)⟩
 cases h4:z0H a2 b2
 ·
  as_aux_lemma =>
   have HB:Hid (zR s c r a1 b1 a2 b2 a3 b3 a4 b4=false):=Hid.mk (by simp [zR,h0,h1,h2,h3,h4]);go_enter Tryz.func64,Tryz.ntmps64;go_wp2_with (first | (go_at_call 26;refine (z1f _ _ hs).mono ?_;rintro e w' ⟨rfl,rfl⟩) | (go_at_call 22;refine (zA _ _ _ _).mono ?_;rintro e w' ⟨rfl,rfl⟩) | (go_at_call 81;refine (z2O _ _ _).mono ?_;rintro e w' ⟨rfl,rfl⟩))
   go_ret;exact ⟨zU HB.out.symm,by repeat (first | exact Below.refl _ _ | apply ze)⟩
 cases h5:z0H a3 b3
 ·
  as_aux_lemma =>
   have HB:Hid (zR s c r a1 b1 a2 b2 a3 b3 a4 b4=false):=Hid.mk (by simp [zR,h0,h1,h2,h3,h4,h5]);go_enter Tryz.func64,Tryz.ntmps64;go_wp2_with (first | (go_at_call 26;refine (z1f _ _ hs).mono ?_;rintro e w' ⟨rfl,rfl⟩) | (go_at_call 22;refine (zA _ _ _ _).mono ?_;rintro e w' ⟨rfl,rfl⟩) | (go_at_call 81;refine (z2O _ _ _).mono ?_;rintro e w' ⟨rfl,rfl⟩))
   go_ret;exact ⟨zU HB.out.symm,by repeat (first | exact Below.refl _ _ | apply ze)⟩
 as_aux_lemma =>
  have HB:Hid (zR s c r a1 b1 a2 b2 a3 b3 a4 b4=z0H a4 b4):=Hid.mk (by simp [zR,h0,h1,h2,h3,h4,h5]);go_enter Tryz.func64,Tryz.ntmps64;go_wp2_with (first | (go_at_call 26;refine (z1f _ _ hs).mono ?_;rintro e w' ⟨rfl,rfl⟩) | (go_at_call 22;refine (zA _ _ _ _).mono ?_;rintro e w' ⟨rfl,rfl⟩) | (go_at_call 81;refine (z2O _ _ _).mono ?_;rintro e w' ⟨rfl,rfl⟩))
  go_ret;exact ⟨zU HB.out.symm,by repeat (first | exact Below.refl _ _ | apply ze)⟩
theorem z9c (n:Int) (w:World):(Instr.typeAssert (.iface 133 (.agg #[int i64 n])) 104 135 true).run Tryz.prog w=.ok (.tuple #[.agg #[int i64 0],.bool false]) w:=by kernel_rfl
theorem zah (n:Int) (w:World):(Instr.typeAssert (.iface 133 (.agg #[int i64 n])) 104 137 true).run Tryz.prog w=.ok (.tuple #[.agg #[int i64 0],.bool false]) w:=by kernel_rfl
theorem z8h (n:Int) (w:World):(Instr.typeAssert (.iface 135 (.agg #[int i64 n])) 104 135 true).run Tryz.prog w=.ok (.tuple #[.agg #[int i64 n],.bool true]) w:=by kernel_rfl
theorem z9d (n:Int) (w:World):(Instr.typeAssert (.iface 137 (.agg #[int i64 n])) 104 135 true).run Tryz.prog w=.ok (.tuple #[.agg #[int i64 0],.bool false]) w:=by kernel_rfl
theorem zai (n:Int) (w:World):(Instr.typeAssert (.iface 137 (.agg #[int i64 n])) 104 137 true).run Tryz.prog w=.ok (.tuple #[.agg #[int i64 n],.bool true]) w:=by kernel_rfl
theorem zf7 (n : Int) (w : World) : (method 282 133 (.agg #[.int .i64 n]) "loop.example/panework/impl.number").run Tryz.prog w = .ok (123, .agg #[.int .i64 n]) w := by kernel_rfl
theorem ze5 (n : Int) (w : World) : (method 282 135 (.agg #[.int .i64 n]) "loop.example/panework/impl.number").run Tryz.prog w = .ok (124, .agg #[.int .i64 n]) w := by kernel_rfl
theorem zf8 (n : Int) (w : World) : (method 282 137 (.agg #[.int .i64 n]) "loop.example/panework/impl.number").run Tryz.prog w = .ok (125, .agg #[.int .i64 n]) w := by kernel_rfl
theorem z6k (k n:Int) (w:World) :
  Calls Tryz.prog 45 #[.agg #[int i64 k,int i64 n]] w fun e w'=>e=.returned (.bool (z1G k n))/\Below w.heap.size w w':=by
 by_cases h0:k=0
 ·subst h0;have t1:=fun w=>z9c n w;have t2:=fun w=>zah n w;have t3:=fun w=>zf7 n w;have HC:=Hd (zfr n);go_enter Tryz.func45,Tryz.ntmps45;go_wp2_with (first | (go_at_call 22;refine (zA _ _ _ _).mono ?_;rintro e w' ⟨rfl,rfl⟩) | go_in)
  go_ret;exact ⟨zU HC.out.symm,by repeat (first | refine ze ?_ _ | exact Below.refl _ _)⟩
 by_cases h1:k=1
 ·subst h1;have t1:=fun w=>z8h n w;have t3:=fun w=>ze5 n w;have HC:=Hd (zcr n);go_enter Tryz.func45,Tryz.ntmps45;go_wp2_with (first | (go_at_call 22;refine (zA _ _ _ _).mono ?_;rintro e w' ⟨rfl,rfl⟩) | go_in)
  go_ret;exact ⟨zU HC.out.symm,by repeat (first | refine ze ?_ _ | exact Below.refl _ _)⟩
 by_cases h2:k=2
 ·subst h2;have t1:=fun w=>z9d n w;have t2:=fun w=>zai n w;have t3:=fun w=>zf8 n w;have HC:=Hd (zcs n);go_enter Tryz.func45,Tryz.ntmps45;go_wp2_with (first | (go_at_call 22;refine (zA _ _ _ _).mono ?_;rintro e w' ⟨rfl,rfl⟩) | go_in)
  go_ret;exact ⟨zU HC.out.symm,by repeat (first | refine ze ?_ _ | exact Below.refl _ _)⟩
 have e0:(k == 0)=false:=beq_eq_false_iff_ne.2 h0;have e1:(k == 1)=false:=beq_eq_false_iff_ne.2 h1;have e2:(k == 2)=false:=beq_eq_false_iff_ne.2 h2;have HC:=Hd (zb4 n h0 h1 h2);clear h0 h1 h2;go_enter Tryz.func45,Tryz.ntmps45;go_wp2;go_ret;exact ⟨zU HC.out.symm,by repeat (first | refine ze ?_ _ | exact Below.refl _ _)⟩
theorem z5U (v:Value) (ps:List (Int × Int)) (w:World) {z:Nat} (h:zY w z v ps) :
  Calls Tryz.prog 24 #[v] w fun e w'=>e=.returned (.bool (z1v ps))/\Below w.heap.size w w':=by
 obtain ⟨a,cap,rfl,hlen⟩:=At.form h;unfold maxLen at hlen;have H:=Hd h;clear h;by_cases h8:(8:Int) < (ps.length:Int)
 ·have HF:Hid (z1v ps=false):=Hid.intro (by have:¬ ps.length≤8:=by omega
                                            simp [z1v,this])
  go_enter Tryz.func24,Tryz.ntmps24;go_wp2;go_ret;exact ⟨zU HF.out.symm,Below.refl _ _⟩
 ·have h8':ps.length<=8:=(by omega);go_enter Tryz.func24,Tryz.ntmps24;go_wp2_with fail
  go_loopw [4,10] (fun _ i W=>∃ k:Nat,k<=ps.length/\i=int i64 k/\Hid (∀ j,j < k->(fun p:Int × Int=>z1G p.1 p.2) (ps.getD j (0,0))=true)/\Hid (Below w.heap.size w W)) (fun _ i _=>ps.length - (intOf i).toNat)
  case atStart=>exact ⟨0,Nat.zero_le _,rfl,fun j hj=>absurd hj (Nat.not_lt_zero _),Below.refl _ _⟩
  case round =>
   obtain ⟨k,hk,rfl,HA,HB⟩:=hrel;by_cases hlt:k < ps.length
   ·obtain ⟨b,off,cap',e',hc1,hc2,hbl,hx0,hx1⟩:=At.get (H.out.kept HB.out) hlt;simp only [Value.slice.injEq,true_and] at e';obtain ⟨rfl,rfl⟩:=e';unfold maxLen at hc2
    cases hv:z1G (ps.getD k (0,0)).1 (ps.getD k (0,0)).2
    ·have HF:Hid (z1v ps=false):=Hd (by rw [z1v,z37 (0,0) (fun p:Int × Int=>z1G p.1 p.2) ps k hlt hv,Bool.and_false]);generalize ps.getD k (0,0)=x at hx0 hx1 hv;go_wp2_with fail
     refine (z6k _ _ _).mono ?_;rw [hv];rintro e w1 ⟨rfl,hb1⟩;have K1:=Hd (zg (ze HB.out _) hb1);clear hb1;go_wp2;go_ret;exact ⟨zU HF.out.symm,K1.out⟩
    ·have HN:=Hd (z38 (p:=fun p:Int × Int=>z1G p.1 p.2) HA.out hv);generalize ps.getD k (0,0)=x at hx0 hx1 hv;go_wp2_with fail
     refine (z6k _ _ _).mono ?_;rw [hv];rintro e w1 ⟨rfl,hb1⟩;have K1:=Hd (zg (ze HB.out _) hb1);clear hb1;go_wp2;go_roundw
     case rel=>exact ⟨k+1,by omega,by go_num,HN,K1⟩
     case measure=>simp [intOf];omega
   ·obtain rfl:k=ps.length:=by omega
    have HF:Hid (z1v ps=true):=Hd (by rw [z1v,z3C (0,0) (fun p:Int × Int=>z1G p.1 p.2) ps HA.out];simp [h8']);go_wp2;go_ret;exact ⟨zU HF.out.symm,HB.out⟩
theorem z8Z (u:Value) (r:R) (w:World) {z:Nat} (h:z0T w z u r.cells) :
  Calls Tryz.prog 46 #[.agg #[u,.bool r.whole]] w fun e w'=>e=.returned (.bool (z0Y r))/\Below w.heap.size w w':=by
 obtain ⟨a,cap,rfl,hlen⟩:=At.form h;unfold maxLen at hlen;have H:=Hd h;clear h;by_cases h8:(5:Int) < (r.cells.length:Int)
 ·have HF:Hid (z0Y r=false):=Hid.intro (by have:¬ r.cells.length≤5:=by omega
                                           simp [z0Y,this])
  go_enter Tryz.func46,Tryz.ntmps46;go_wp2;go_ret;exact ⟨zU HF.out.symm,ze (Below.refl _ _) _⟩
 ·have h8':r.cells.length<=5:=(by omega);go_enter Tryz.func46,Tryz.ntmps46;go_wp2_with fail
  go_loopw [4,12] (fun _ i W=>∃ k:Nat,k<=r.cells.length/\i=int i64 k/\Hid (∀ j,j < k->cB (r.cells.getD j dC)=true)/\Hid (Below w.heap.size w W)) (fun _ i _=>r.cells.length - (intOf i).toNat)
  case atStart=>exact ⟨0,Nat.zero_le _,rfl,fun j hj=>absurd hj (Nat.not_lt_zero _),ze (Below.refl _ _) _⟩
  case round =>
   obtain ⟨k,hk,rfl,HA,HB⟩:=hrel;by_cases hlt:k < r.cells.length
   ·obtain ⟨b,off,cap',e',hc1,hc2,hbl,hx,hs⟩:=At.get (H.out.kept HB.out) hlt;simp only [Value.slice.injEq,true_and] at e';obtain ⟨rfl,rfl⟩:=e';unfold maxLen at hc2;have hs':=Hd hs
    cases hv:cB (r.cells.getD k dC)
    ·have HF:Hid (z0Y r=false):=Hd (by rw [z0Y,z37 dC cB r.cells k hlt hv,Bool.and_false]);generalize r.cells.getD k dC=x at hx hs' hv;obtain ⟨x0,x1,x2,x3,x4,x5,x6,x7,x8,x9,x10⟩:=hx;clear hs;go_wp2_with fail
     refine (z7J _ _ _ _ _ _ _ _ _ _ _ _ hs'.out).mono ?_;rw [show zR x.s x.c x.r x.a1 x.b1 x.a2 x.b2 x.a3 x.b3 x.a4 x.b4=false from hv];rintro e w1 ⟨rfl,hb1⟩;have K1:=Hd (zg (ze HB.out _) hb1);clear hb1;go_wp2;go_ret;exact ⟨zU HF.out.symm,K1.out⟩
    ·have HN:=Hd (z38 HA.out hv);generalize r.cells.getD k dC=x at hx hs' hv;obtain ⟨x0,x1,x2,x3,x4,x5,x6,x7,x8,x9,x10⟩:=hx;clear hs;go_wp2_with fail
     refine (z7J _ _ _ _ _ _ _ _ _ _ _ _ hs'.out).mono ?_;rw [show zR x.s x.c x.r x.a1 x.b1 x.a2 x.b2 x.a3 x.b3 x.a4 x.b4=true from hv];rintro e w1 ⟨rfl,hb1⟩;have K1:=Hd (zg (ze HB.out _) hb1);clear hb1;go_wp2;go_roundw
     case rel=>exact ⟨k+1,by omega,by go_num,HN,K1⟩
     case measure=>simp [intOf];omega
   ·obtain rfl:k=r.cells.length:=by omega
    have HF:Hid (z0Y r=true):=Hd (by rw [z0Y,z3C dC cB r.cells HA.out];simp [h8']);go_wp2;go_ret;exact ⟨zU HF.out.symm,HB.out⟩
theorem zbT (v:Value) (rs:List R) (w:World) {z:Nat} (h:zJ w z v rs) :
  Calls Tryz.prog 25 #[v] w fun e w'=>e=.returned (.bool (rs.all z0Y))/\Below w.heap.size w w':=by
 obtain ⟨a,cap,rfl,hlen⟩:=At.form h;unfold maxLen at hlen;have H:=Hd h;clear h;go_enter Tryz.func25,Tryz.ntmps25;go_wp2_with fail
 go_loopw [4,7] (fun _ i W=>∃ k:Nat,k<=rs.length/\i=int i64 k/\Hid (∀ j,j < k->z0Y (rs.getD j dR)=true)/\Hid (Below w.heap.size w W)) (fun _ i _=>rs.length - (intOf i).toNat)
 case atStart=>exact ⟨0,Nat.zero_le _,rfl,fun j hj=>absurd hj (Nat.not_lt_zero _),Below.refl _ _⟩
 case round =>
  obtain ⟨k,hk,rfl,HA,HB⟩:=hrel;by_cases hlt:k < rs.length
  ·obtain ⟨b,off,cap',e',hc1,hc2,hbl,u,hx0,hx1,hx⟩:=At.get (H.out.kept HB.out) hlt;simp only [Value.slice.injEq,true_and] at e';obtain ⟨rfl,rfl⟩:=e';unfold maxLen at hc2;obtain ⟨ua,ucap,rfl,_⟩:=At.form hx;have HX:=Hd hx;clear hx
   cases hv:z0Y (rs.getD k dR)
   ·have HF:Hid (rs.all z0Y=false):=Hd (z37 dR z0Y rs k hlt hv);generalize rs.getD k dR=x at hx0 hx1 hv HX;go_wp2_with fail
    refine (z8Z _ x _ (HX.out.kept (ze (Below.refl _ _) _))).mono ?_;rw [hv];rintro e w1 ⟨rfl,hb1⟩;have K1:=Hd (zg (ze HB.out _) hb1);clear hb1;go_wp2;go_ret;exact ⟨zU HF.out.symm,K1.out⟩
   ·have HN:=Hd (z38 HA.out hv);generalize rs.getD k dR=x at hx0 hx1 hv HX;go_wp2_with fail
    refine (z8Z _ x _ (HX.out.kept (ze (Below.refl _ _) _))).mono ?_;rw [hv];rintro e w1 ⟨rfl,hb1⟩;have K1:=Hd (zg (ze HB.out _) hb1);clear hb1;go_wp2;go_roundw
    case rel=>exact ⟨k+1,by omega,by go_num,HN,K1⟩
    case measure=>simp [intOf];omega
  ·obtain rfl:k=rs.length:=by omega
   have HF:Hid (rs.all z0Y=true):=Hd (z3C dR z0Y rs HA.out);go_wp2;go_ret;exact ⟨zU HF.out.symm,HB.out⟩
theorem z3R (vc:Value) (ar:Option Addr) (n cr:Nat) (hd ft gp:Int) (a:Option Addr) (m c:Nat) (hvc:vc=.slice a m c) (hn:n<=4611686018427387903) (w:World) :
  Calls Tryz.prog 23 #[.agg #[vc,int i64 hd,int i64 ft,.slice ar n cr,int i64 gp]] w fun e w'=>e=.returned (.bool (z1I n hd ft))/\Below w.heap.size w w':=by
 subst hvc
 cases h1:inB hd 0 n
 ·have HF:Hid (z1I n hd ft=false):=Hd (by rw [z1I,h1];rfl);go_enter Tryz.func23,Tryz.ntmps23;go_wp2_with (go_at_call 22;refine (zA _ _ _ _).mono ?_;rintro e w' ⟨rfl,rfl⟩)
  go_ret;exact ⟨zU HF.out.symm,ze (Below.refl _ _) _⟩
 ·have h1':0<=hd/\hd<=n:=of_decide_eq_true h1;obtain ⟨g1,g2⟩:=h1';have HF:Hid (z1I n hd ft=inB ft 0 (n - hd)):=Hd (by rw [z1I,h1];rfl);go_enter Tryz.func23,Tryz.ntmps23;go_wp2_with (go_at_call 22;refine (zA _ _ _ _).mono ?_;rintro e w' ⟨rfl,rfl⟩)
  go_ret;exact ⟨zU HF.out.symm,ze (Below.refl _ _) _⟩
theorem z28 (ac ar:Option Addr) (cc cr:Nat) (t:T) (w:World) {z:Nat} (hc:zY w z (.slice ac t.cols.length cc) t.cols) (hr:zJ w z (.slice ar t.rows.length cr) t.rows) :
  Calls Tryz.prog 6 #[.agg #[.slice ac t.cols.length cc,int i64 t.head,int i64 t.foot,.slice ar t.rows.length cr,int i64 t.gap]] w fun e w'=>e=.returned (.bool (zq t))/\Below w.heap.size w w':=by
 have HC:=Hd hc;have HR:=Hd hr;clear hc hr;have K0:=Hd (ze (Below.refl w.heap.size w) (.cells #[.slice ac t.cols.length cc,int i64 t.head,int i64 t.foot,.slice ar t.rows.length cr,int i64 t.gap] 26))
 cases h0:inB t.rows.length 1 8
 ·have HF:Hid (zq t=false):=Hd (by simp [zq,h0]);go_enter Tryz.func6,Tryz.ntmps6;go_wp2_with (go_at_call 22;refine (zA _ _ _ _).mono ?_;rintro e w' ⟨rfl,rfl⟩)
  go_ret;exact ⟨zU HF.out.symm,ze (Below.refl _ _) _⟩
 cases h1:z1I t.rows.length t.head t.foot
 ·have HF:Hid (zq t=false):=Hd (by simp [zq,h0,h1]);have hN:0<=((t.rows.length:Nat):Int) - 1/\((t.rows.length:Nat):Int)<=8:=(by have:=of_decide_eq_true h0;omega);go_enter Tryz.func6,Tryz.ntmps6;go_wp2_with (go_at_call 22;refine (zA _ _ _ _).mono ?_;rintro e w' ⟨rfl,rfl⟩)
  refine (z3R _ ar t.rows.length cr t.head t.foot t.gap ac t.cols.length cc rfl (by omega) _).mono ?_;rw [h1];rintro e w1 ⟨rfl,hb1⟩;obtain ⟨m0,m1,m2,m3,m4⟩:=zy ((hb1.block w.heap.size (by simp)).trans (z1N _ _));have K1:=Hd (zg K0.out hb1);have L1:=Hd hb1;clear hb1;go_wp2_with (go_at_call 22;refine (zA _ _ _ _).mono ?_;rintro e w' ⟨rfl,rfl⟩)
  go_ret;exact ⟨zU HF.out.symm,K1.out⟩
 cases h2:inB t.gap 0 3
 ·have HF:Hid (zq t=false):=Hd (by simp [zq,h0,h1,h2]);have hN:0<=((t.rows.length:Nat):Int) - 1/\((t.rows.length:Nat):Int)<=8:=(by have:=of_decide_eq_true h0;omega);go_enter Tryz.func6,Tryz.ntmps6;go_wp2_with (go_at_call 22;refine (zA _ _ _ _).mono ?_;rintro e w' ⟨rfl,rfl⟩)
  refine (z3R _ ar t.rows.length cr t.head t.foot t.gap ac t.cols.length cc rfl (by omega) _).mono ?_;rw [h1];rintro e w1 ⟨rfl,hb1⟩;obtain ⟨m0,m1,m2,m3,m4⟩:=zy ((hb1.block w.heap.size (by simp)).trans (z1N _ _));have K1:=Hd (zg K0.out hb1);have L1:=Hd hb1;clear hb1;go_wp2_with (go_at_call 22;refine (zA _ _ _ _).mono ?_;rintro e w' ⟨rfl,rfl⟩)
  go_ret;exact ⟨zU HF.out.symm,K1.out⟩
 cases h3:z1v t.cols
 ·have HF:Hid (zq t=false):=Hd (by simp [zq,h0,h1,h2,h3]);have hN:0<=((t.rows.length:Nat):Int) - 1/\((t.rows.length:Nat):Int)<=8:=(by have:=of_decide_eq_true h0;omega);go_enter Tryz.func6,Tryz.ntmps6;go_wp2_with (go_at_call 22;refine (zA _ _ _ _).mono ?_;rintro e w' ⟨rfl,rfl⟩)
  refine (z3R _ ar t.rows.length cr t.head t.foot t.gap ac t.cols.length cc rfl (by omega) _).mono ?_;rw [h1];rintro e w1 ⟨rfl,hb1⟩;obtain ⟨m0,m1,m2,m3,m4⟩:=zy ((hb1.block w.heap.size (by simp)).trans (z1N _ _));have K1:=Hd (zg K0.out hb1);have L1:=Hd hb1;clear hb1;go_wp2_with (go_at_call 22;refine (zA _ _ _ _).mono ?_;rintro e w' ⟨rfl,rfl⟩)
  refine (z5U _ t.cols _ (HC.out.kept K1.out)).mono ?_;rw [h3];rintro e w2 ⟨rfl,hb2⟩;obtain ⟨n0,n1,n2,n3,n4⟩:=zy (((zg L1.out hb2).block w.heap.size (by simp)).trans (z1N _ _));have K2:=Hd (zg K1.out hb2);clear hb2;go_wp2;go_ret;exact ⟨zU HF.out.symm,K2.out⟩
 have HF:Hid (zq t=t.rows.all z0Y):=Hd (by simp [zq,h0,h1,h2,h3]);have hN:0<=((t.rows.length:Nat):Int) - 1/\((t.rows.length:Nat):Int)<=8:=(by have:=of_decide_eq_true h0;omega);go_enter Tryz.func6,Tryz.ntmps6;go_wp2_with (go_at_call 22;refine (zA _ _ _ _).mono ?_;rintro e w' ⟨rfl,rfl⟩)
 refine (z3R _ ar t.rows.length cr t.head t.foot t.gap ac t.cols.length cc rfl (by omega) _).mono ?_;rw [h1];rintro e w1 ⟨rfl,hb1⟩;obtain ⟨m0,m1,m2,m3,m4⟩:=zy ((hb1.block w.heap.size (by simp)).trans (z1N _ _));have K1:=Hd (zg K0.out hb1);have L1:=Hd hb1;clear hb1;go_wp2_with (go_at_call 22;refine (zA _ _ _ _).mono ?_;rintro e w' ⟨rfl,rfl⟩)
 refine (z5U _ t.cols _ (HC.out.kept K1.out)).mono ?_;rw [h3];rintro e w2 ⟨rfl,hb2⟩;obtain ⟨n0,n1,n2,n3,n4⟩:=zy (((zg L1.out hb2).block w.heap.size (by simp)).trans (z1N _ _));have K2:=Hd (zg K1.out hb2);clear hb2;go_wp2_with fail
 refine (zbT _ t.rows _ (HR.out.kept K2.out)).mono ?_;rintro e w3 ⟨rfl,hb3⟩;have K3:=Hd (zg K2.out hb3);clear hb3;go_wp2;go_ret;exact ⟨zU HF.out.symm,K3.out⟩
theorem zaM (ac ar:Option Addr) (cc cr:Nat) (t:T) (q:Int) (w:World) {z:Nat} (hc:zY w z (.slice ac t.cols.length cc) t.cols) (hr:zJ w z (.slice ar t.rows.length cr) t.rows) :
  Calls Tryz.prog 65 #[.agg #[.slice ac t.cols.length cc,int i64 t.head,int i64 t.foot,.slice ar t.rows.length cr,int i64 t.gap],int i64 q] w fun e w'=>e=.returned (int i64 (z1R t q))/\Below w.heap.size w w':=by
 have K0:=Hd (ze (Below.refl w.heap.size w) (.cells #[.slice ac t.cols.length cc,int i64 t.head,int i64 t.foot,.slice ar t.rows.length cr,int i64 t.gap] 26));have HC:=Hd (hc.kept K0.out);have HR:=Hd (hr.kept K0.out);clear hc hr
 cases hv:zq t
 ·have HF:Hid (z1R t q=-1):=Hd (by rw [z1R,if_neg (by rw [hv];simp)]);go_enter Tryz.func65,Tryz.ntmps65;go_wp2_with fail
  refine (z28 ac ar cc cr t _ HC.out HR.out).mono ?_;rw [hv];rintro e w1 ⟨rfl,hb1⟩;have K1:=Hd (zg K0.out hb1);clear hb1;go_wp2;go_ret;exact ⟨z7m HF.out.symm,K1.out⟩
 obtain ⟨⟨b1,b2⟩,⟨b3,b4⟩,b5,b6⟩:=z58 hv
 cases hi:inB q 0 (t.rows.length - 1)
 ·have HF:Hid (z1R t q=-1):=Hd (by rw [z1R,if_neg (by rw [hi];simp)]);go_enter Tryz.func65,Tryz.ntmps65;go_wp2_with fail
  refine (z28 ac ar cc cr t _ HC.out HR.out).mono ?_;rw [hv];rintro e w1 ⟨rfl,hb1⟩;obtain ⟨m0,m1,m2,m3,m4⟩:=zy ((hb1.block w.heap.size (by simp)).trans (z1N _ _));have K1:=Hd (zg K0.out hb1);clear hb1;go_wp2_with (go_at_call 22;refine (zA _ _ _ _).mono ?_;rintro e w' ⟨rfl,rfl⟩)
  go_ret;exact ⟨z7m HF.out.symm,K1.out⟩
 have HP:Hid (z1R t q=if q < t.head then 0 else if t.rows.length - t.foot<=q then 2 else 1):=Hd (by rw [z1R,if_pos ⟨hv,hi⟩]);by_cases h1:q < t.head
 ·have HF:Hid (z1R t q=0):=Hd (by rw [HP.out,if_pos h1]);go_enter Tryz.func65,Tryz.ntmps65;go_wp2_with fail
  refine (z28 ac ar cc cr t _ HC.out HR.out).mono ?_;rw [hv];rintro e w1 ⟨rfl,hb1⟩;obtain ⟨m0,m1,m2,m3,m4⟩:=zy ((hb1.block w.heap.size (by simp)).trans (z1N _ _));have K1:=Hd (zg K0.out hb1);clear hb1;go_wp2_with (go_at_call 22;refine (zA _ _ _ _).mono ?_;rintro e w' ⟨rfl,rfl⟩)
  go_ret;exact ⟨z7m HF.out.symm,K1.out⟩
 by_cases h2:(t.rows.length:Int) - t.foot<=q
 ·have HF:Hid (z1R t q=2):=Hd (by rw [HP.out,if_neg h1,if_pos h2]);go_enter Tryz.func65,Tryz.ntmps65;go_wp2_with fail
  refine (z28 ac ar cc cr t _ HC.out HR.out).mono ?_;rw [hv];rintro e w1 ⟨rfl,hb1⟩;obtain ⟨m0,m1,m2,m3,m4⟩:=zy ((hb1.block w.heap.size (by simp)).trans (z1N _ _));have K1:=Hd (zg K0.out hb1);clear hb1;go_wp2_with (go_at_call 22;refine (zA _ _ _ _).mono ?_;rintro e w' ⟨rfl,rfl⟩)
  go_ret;exact ⟨z7m HF.out.symm,K1.out⟩
 ·have HF:Hid (z1R t q=1):=Hd (by rw [HP.out,if_neg h1,if_neg h2]);go_enter Tryz.func65,Tryz.ntmps65;go_wp2_with fail
  refine (z28 ac ar cc cr t _ HC.out HR.out).mono ?_;rw [hv];rintro e w1 ⟨rfl,hb1⟩;obtain ⟨m0,m1,m2,m3,m4⟩:=zy ((hb1.block w.heap.size (by simp)).trans (z1N _ _));have K1:=Hd (zg K0.out hb1);clear hb1;go_wp2_with (go_at_call 22;refine (zA _ _ _ _).mono ?_;rintro e w' ⟨rfl,rfl⟩)
  go_ret;exact ⟨z7m HF.out.symm,K1.out⟩
theorem ze6 {R C:Int} {x:GC} (hf:z2a R C x=true) (hR:R<=8) (hC:C<=94) (w:World) (B:Nat) (L:List (Nat × Nat)) (hT:zW w B L) :
  Calls Tryz.prog 53 #[.map (some B),.agg #[int i64 x.row,int i64 x.col,int i64 x.rows,int i64 x.cols,int i64 x.ins]] w fun e w'=>e=.returned (.bool (z4G L x.row.toNat x.col.toNat x.rows.toNat x.cols.toNat))/\Below w.heap.size w w':=by
 obtain ⟨e1,e2,e3,e4,h1,h2,h3,h4⟩:=z4w hf;have h:=zat x.row.toNat x.col.toNat x.rows.toNat x.cols.toNat x.ins (by omega) (by omega) w B L hT;unfold gcV at h;rw [<-e1,<-e2,<-e3,<-e4] at h;exact h
theorem zg1 {R C:Int} {x:GC} (hf:z2a R C x=true) (hR:R<=8) (hC:C<=94) (w:World) (B:Nat) (L:List (Nat × Nat)) (hT:zW w B L) (hL:L.length<=40 * 752) :
  Calls Tryz.prog 54 #[.map (some B),.agg #[int i64 x.row,int i64 x.col,int i64 x.rows,int i64 x.cols,int i64 x.ins]] w fun e w'=>(∃ v,e=.returned v)/\zW w' B (L ++ (z2Z x).map (·.1))/\w.grownBy w' (some B):=by
 have hl:=z7k hf hR hC;obtain ⟨e1,e2,e3,e4,h1,h2,h3,h4⟩:=z4w hf;have h:=zdu x.row.toNat x.col.toNat x.rows.toNat x.cols.toNat x.ins (by omega) (by omega) w B L hT (by show _+(z2Z x).length < _;omega);unfold gcV at h;rw [<-e1,<-e2,<-e3,<-e4] at h;exact h
theorem zaN {t:T} (h:zq t=true) {r:Nat} (hr:r < t.rows.length):(z1R t r=0/\z06 t r=t.head)\/(z1R t r=1/\z06 t r=t.rows.length - t.foot)\/(z1R t r=2/\z06 t r=t.rows.length):=by
 have e:z1R t r=if (r:Int) < t.head then 0 else if (t.rows.length:Int) - t.foot<=r then 2 else 1:=by
  unfold z1R;rw [if_pos ⟨h,z2k (by omega) (by omega)⟩]
 unfold z06;rw [e]
 split
 ·exact .inl ⟨rfl,rfl⟩
 ·split
  ·exact .inr (.inr ⟨rfl,rfl⟩)
  ·exact .inr (.inl ⟨rfl,rfl⟩)
theorem zaO (ac ar:Option Addr) (cc cr:Nat) (t:T) (htk:zq t=true) (r:Nat) (hrl:r < t.rows.length) (w:World) {z:Nat} (hc:zY w z (.slice ac t.cols.length cc) t.cols) (hr:zJ w z (.slice ar t.rows.length cr) t.rows) :
  Calls Tryz.prog 52 #[.agg #[.slice ac t.cols.length cc,int i64 t.head,int i64 t.foot,.slice ar t.rows.length cr,int i64 t.gap],int i64 (r:Int)] w fun e w'=>e=.returned (int i64 (z06 t r))/\Below w.heap.size w w':=by
 have hb:=z58 htk;have K0:=ze (Below.refl w.heap.size w) (.cells #[.slice ac t.cols.length cc,int i64 t.head,int i64 t.foot,.slice ar t.rows.length cr,int i64 t.gap] 26);have X0:=zk w (.cells #[.slice ac t.cols.length cc,int i64 t.head,int i64 t.foot,.slice ar t.rows.length cr,int i64 t.gap] 26);have KP:=Hd (zaM ac ar cc cr t (r:Int) _ (hc.kept K0) (hr.kept K0))
 rcases zaN htk hrl with ⟨h1,h2⟩ | ⟨h1,h2⟩ | ⟨h1,h2⟩
 all_goals
  rw [h1] at KP;have HE:=Hd h2;have HX:=Hd X0;have HK:=Hd K0;clear h1 h2 hc hr;go_enter Tryz.func52,Tryz.ntmps52;go_wp2_with fail
  refine KP.out.mono ?_;rintro e w1 ⟨rfl,hb1⟩;obtain ⟨⟨t0,t1,t2,t3,t4⟩,_⟩:=z3Q (z1q HX.out hb1);have HB:=Hd (zg HK.out hb1);clear hb1 KP HX HK X0 K0;go_wp2;go_ret;exact ⟨zfi HE.out.symm,HB.out⟩
theorem z19.fits {n:Nat} {a:GC} (h:z19 n a):z2a n 94 a=true:=by
 unfold z19 at h;simp only [z2a,inB,Bool.and_eq_true,decide_eq_true_eq];omega
theorem z6l {W:World} {mb b:Nat} {L:List (Nat × Nat)} {cur:Array Value} {e:TypeId} (h:zW W mb L) (hb:W.heap[b]?=some (.cells cur e)):mb ≠ b:=fun e1=>by
 obtain ⟨o,ho,hc⟩:=h.notCells;rw [e1,hb] at ho
 cases ho
 cases hc
theorem zbl {W:World} {mb base:Nat} {L:List (Nat × Nat)} {e:TypeId} {sz:Nat} {v:Value} {m:Nat} {xs:List Value} (h:zW W mb L) (ho:W.ownsRow base e sz v m xs):some mb ≠ v.ownBlock:=fun e1=>by
 rcases ho.2 with ⟨rfl,_⟩ | ⟨g,cap,cur,rfl,_,hc,_⟩
 ·simp [Value.ownBlock] at e1
 ·simp [Value.ownBlock] at e1;exact z6l h hc e1
theorem SG.take {w W W':World} {gb mb:Nat} {ac ar:Option Addr} {cc cr:Nat} {t:T} {C:Int} {vg:Value} {gs:List GC} {L:List (Nat × Nat)} (h:SG w gb ac ar cc cr t C vg gs W) (hT:zW W mb L) (hm:w.heap.size<=mb) (k:W.grownBy W' (some mb)):SG w gb ac ar cc cr t C vg gs W' :=
 ⟨h.bel.grown k h.bel.size (fun j e=>by cases e;exact hm),z0e h.tbl k (fun e=>by injection e with e;exact z6l hT h.tbl e.symm),z0e h.res k (fun e=>by injection e with e;exact z6l hT h.res e.symm),z0e h.grd k (fun e=>by injection e with e;exact z6l hT h.grd e.symm),
  z05 (n:=w.heap.size+2) (b1:=none) (b2:=some mb) h.own (Off.grown k) (Nat.le_refl _) (by cases vg.ownBlock <;> simp) (by
   cases hb:vg.ownBlock with
   | none=>exact .inl rfl
   | some b=>exact .inr (fun e=>zbl hT h.own (by rw [hb];exact e.symm)))⟩
theorem z6m (ac ar:Option Addr) (cc cr:Nat) (t:T) (hD:z0b t) (w:World) {z:Nat} (hc:zY w z (.slice ac t.cols.length cc) t.cols) (hr:zJ w z (.slice ar t.rows.length cr) t.rows) :
  Calls Tryz.prog 35 #[.agg #[.slice ac t.cols.length cc,int i64 t.head,int i64 t.foot,.slice ar t.rows.length cr,int i64 t.gap]] w fun e w'=>∃ vg,e=.returned (.agg #[int i64 (gOf t).rows,int i64 (gOf t).cols,vg])/\z9y w' w.heap.size vg (gOf t).cells/\Below w.heap.size w w':=by
 have hmm:=@run_makeMap Tryz.prog;obtain ⟨W0,hW0⟩:∃ W0,(w.alloc (.cells #[.slice ac t.cols.length cc,int i64 t.head,int i64 t.foot,.slice ar t.rows.length cr,int i64 t.gap] 26)).alloc (.cells #[int i64 0,int i64 0,.slice none 0 0] 68)=W0:=⟨_,rfl⟩;have K0:Below w.heap.size w W0:=(by rw [<-hW0];exact ze (ze (Below.refl _ _) _) _);have hz0:W0.heap.size=w.heap.size+2:=(by rw [<-hW0];simp);have T0:W0.heap[w.heap.size]?=some (.cells #[.slice ac t.cols.length cc,int i64 t.head,int i64 t.foot,.slice ar t.rows.length cr,int i64 t.gap] 26):=(by rw [<-hW0];exact (Below.heap_alloc _ _ _ (by simp)).trans (zk _ _))
 have X0:W0.heap[w.heap.size+1]?=some (.cells #[int i64 0,int i64 0,.slice none 0 0] 68):=by
  have:=zk (w.alloc (.cells #[.slice ac t.cols.length cc,int i64 t.head,int i64 t.foot,.slice ar t.rows.length cr,int i64 t.gap] 26)) (.cells #[int i64 0,int i64 0,.slice none 0 0] 68);rw [hW0] at this
  simpa using this
 have KO:=Hd (z28 ac ar cc cr t W0 (hc.kept K0) (hr.kept K0));have HC:=Hd hc;have HR:=Hd hr;obtain ⟨⟨t0,t1,t2,t3,t4⟩,_⟩:=z3Q T0;clear hc hr
 cases htk:zq t with
 | false =>
  rw [htk] at KO;have hg:gOf t=⟨0,0,[]⟩:=(by unfold gOf;rw [if_neg (by rw [htk];simp)]);have HG:=Hd hg;clear htk hg hD;go_enter Tryz.func35,Tryz.ntmps35;go_wp2_with fail
  refine KO.out.mono ?_;rintro e w1 ⟨rfl,hb1⟩;have X1:=z1q X0 hb1;have K1:=zg K0 hb1;obtain ⟨⟨x0,x1,x2⟩,y0,y1,y2⟩:=z6j X1;have HB:=Hd (((K1.setCell (p:=⟨w.heap.size+1,0,none⟩) (by show _<=w.heap.size+1;omega) (int i64 0)).setCell (p:=⟨w.heap.size+1,1,none⟩) (by show _<=w.heap.size+1;omega) (int i64 0)).setCell (p:=⟨w.heap.size+1,2,none⟩) (by show _<=w.heap.size+1;omega) (.slice none 0 0));clear hb1 K1 X1 KO hW0 t0 t1 t2 t3 t4 hmm;go_wp2;exact bodyPost_ret (v:=.agg #[int i64 0,int i64 0,.slice none 0 0]) (by simp [results,Tryz.results35,go_sem,x0,x1,x2]) rfl ⟨.slice none 0 0,by rw [HG.out],by rw [HG.out];exact ⟨rfl,.inl ⟨rfl,rfl⟩⟩,HB.out⟩
 | true =>
  rw [htk] at KO;have hg:gOf t=⟨t.rows.length,z0v (max 1 (t.cols.length:Int)) (zN t),zN t⟩:=(by unfold gOf;rw [if_pos htk]);have HG:=Hd hg;have HL:=Hd (z4I htk hD);have hn8:=HL.out.rows;have hdc:=hD.cols;have HTK:=Hd htk;clear htk hg hD;go_enter Tryz.func35,Tryz.ntmps35;go_wp2_with fail
  refine KO.out.mono ?_;rintro e w1 ⟨rfl,hb1⟩;have X1:=Hd (z1q X0 hb1);have T1:=Hd (z1q T0 hb1);have K1:=Hd (zg K0 hb1);have hz1:w.heap.size+2<=w1.heap.size:=(by have:=hb1.size;omega);obtain ⟨⟨s0,s1,s2,s3,s4⟩,_⟩:=z3Q T1.out;clear KO hW0 t0 t1 t2 t3 t4 hb1 K0 X0 T0;go_upto_region 3 with fail
  go_cut [3] (fun s W=>s=.pointer (some ⟨w1.heap.size,0,none⟩)/\W=w1.alloc (.cells #[int i64 (t.rows.length:Int),int i64 (max 1 (t.cols.length:Int)),.slice none 0 0] 68))
  case first =>
   by_cases hm1:(1:Int) < (t.cols.length:Int)
   ·have hv:Hid (max 1 (t.cols.length:Int)=t.cols.length):=Hd (by omega);go_wp2_with fail
    go_meet
    case rel=>exact ⟨rfl,by rw [hv.out]⟩
   ·have hv:Hid (max 1 (t.cols.length:Int)=1):=Hd (by omega);go_wp2_with fail
    go_meet
    case rel=>exact ⟨rfl,by rw [hv.out]⟩
  case rest =>
   obtain ⟨rfl,rfl⟩:=hcut;have K2:=ze (ze (Below.refl w1.heap.size w1) (.cells #[int i64 (t.rows.length:Int),int i64 (max 1 (t.cols.length:Int)),.slice none 0 0] 68)) (.map #[] 0);have HS:Hid (SG w w1.heap.size ac ar cc cr t (max 1 (t.cols.length:Int)) (.slice none 0 0) [] ((w1.alloc (.cells #[int i64 (t.rows.length:Int),int i64 (max 1 (t.cols.length:Int)),.slice none 0 0] 68)).alloc (.map #[] 0))):=⟨K1.out.trans (K2.mono (by omega)),z1q T1.out K2,z1q X1.out K2,(Below.heap_alloc _ _ _ (by simp)).trans (zk _ _),⟨rfl,.inl ⟨rfl,rfl⟩⟩⟩
   have HM:Hid (zW ((w1.alloc (.cells #[int i64 (t.rows.length:Int),int i64 (max 1 (t.cols.length:Int)),.slice none 0 0] 68)).alloc (.map #[] 0)) (w1.heap.size+1) (z0f [])):=Hd (by
    have:=zW.new (w1.alloc (.cells #[int i64 (t.rows.length:Int),int i64 (max 1 (t.cols.length:Int)),.slice none 0 0] 68))
    simpa [z0f] using this)
   have hq1:w.heap.size ≠ w1.heap.size:=(by omega);have hq2:w.heap.size ≠ w1.heap.size+1:=(by omega);clear K2;obtain ⟨⟨q0,q1,q2,q3,q4⟩,_⟩:=z3Q HS.out.tbl;go_wp2_with fail
   clear q0 q1 q2 q3 q4;obtain ⟨gb,hgb⟩:∃ gb,w1.heap.size=gb:=⟨_,rfl⟩;generalize (w1.alloc (.cells #[int i64 (t.rows.length:Int),int i64 (max 1 (t.cols.length:Int)),.slice none 0 0] 68)).alloc (.map #[] 0)=Wm at HS HM |-;clear s0 s1 s2 s3 s4 X1 T1 hq1 hq2;rw [hgb] at HS HM |-;have hgz:w.heap.size+2<=gb:=(by omega);clear hgb;go_loopg [26,5,6,7,8,9] t.rows.length (fun kx s26 _ _ _ _ _ W=>∃ (r:Nat) (C:Int) (vg:Value),s26=int i64 r/\r<=t.rows.length/\t.rows.length - r<=kx/\Hid (C=z0v (max 1 (t.cols.length:Int)) (z03 t r))/\Hid (SG w gb ac ar cc cr t C vg (z03 t r) W)/\Hid (zW W (gb+1) (z0f (z03 t r))))
   case atStart=>exact ⟨0,_,_,rfl,by omega,by omega,rfl,HS,HM⟩
   case round =>
    obtain ⟨r,C,vg,rfl,hr,hkx,HCC,HS1,HM1⟩:=hrel;obtain ⟨⟨t0,t1,t2,t3,t4⟩,_⟩:=z3Q HS1.out.tbl;clear HS HM;by_cases hrl:r < t.rows.length
    ·have hrl':(r:Int) < (t.rows.length:Int):=(by omega);obtain ⟨cs,ecs⟩:∃ cs,(t.rows.getD r dR).cells=cs:=⟨_,rfl⟩;obtain ⟨g,off,cap',e',hc1,hc2,hbl,u,hu,hwh,hcs⟩:=At.get HR.out hrl
     have hea:ar=some ⟨g,off,none⟩:=by
      simp only [Value.slice.injEq] at e';exact e'.1
     subst hea
     have hcc2:t.rows.length<=cr/\cr<=9223372036854775807:=by
      simp only [Value.slice.injEq,true_and] at e';rw [e'];unfold maxLen at hc2;omega
     rw [ecs] at hcs;obtain ⟨ca,ccp,rfl,hcm⟩:=At.form hcs;unfold maxLen at hcm hc2;have HCS:=Hd hcs;have HE:=Hd ecs;have HP0:=Hd (z63 HL.out r hr);have KE:=Hd (zaO ac (some ⟨g,off,none⟩) cc cr t HTK.out r hrl wr (HC.out.kept HS1.out.bel) (HR.out.kept HS1.out.bel));have heb:=z4H HL.out hrl;clear ecs hcs hwh e';go_wp2_with fail
     refine KE.out.mono ?_;rintro e w2 ⟨rfl,hb2⟩;have HS2:=Hd (HS1.out.kept hb2);have HM2:Hid (zW w2 (gb+1) (z0f (z03 t r))):=HM1.out.of_block (hb2.block _ HM1.out.lt);have hu2:w2.cell? ⟨g,off+r * 2,none⟩=some (.slice ca cs.length ccp):=(HS2.out.bel.cell (p:=⟨g,off+r * 2,none⟩) hbl).trans hu;clear t0 t1 t2 t3 t4 HS1 HM1 hb2 KE;obtain ⟨⟨t0,t1,t2,t3,t4⟩,_⟩:=z3Q HS2.out.tbl;go_wp2_with fail
     clear t0 t1 t2 t3 t4 hu2;go_loopg [41,7,8,9] cs.length (fun kx s41 _ _ _ W=>∃ (i:Nat) (C:Int) (vg:Value),s41=int i64 i/\i<=cs.length/\cs.length - i<=kx/\Hid (C=z0v (max 1 (t.cols.length:Int)) (z15 (z06 t r) r cs (z03 t r) i))/\Hid (SG w gb ac (some ⟨g,off,none⟩) cc cr t C vg (z15 (z06 t r) r cs (z03 t r) i) W)/\Hid (zW W (gb+1) (z0f (z15 (z06 t r) r cs (z03 t r) i))))
     case atStart=>exact ⟨0,C,vg,rfl,by omega,by omega,HCC,HS2,HM2⟩
     case round =>
      obtain ⟨i,C2,vg2,rfl,hi,hkx2,HC2,HS3,HM3⟩:=hrel;obtain ⟨wp,hwp⟩:∃ wp,wp=wr:=⟨_,rfl⟩;subst hwp;clear HS2 HM2 HCC;by_cases hil:i < cs.length
      ·have hil':(i:Int) < (cs.length:Int):=(by omega);obtain ⟨g2,z3E,cap2,e2,hd1,hd2,hbl2,hx,hxs⟩:=At.get (HCS.out.kept HS3.out.bel) hil;simp only [Value.slice.injEq,true_and] at e2;obtain ⟨rfl,rfl⟩:=e2;unfold maxLen at hd2;have hP:=z6W HL.out hrl HP0.out i (by rw [HE.out];exact hi);rw [HE.out] at hP;have hN:=hP.next HL.out hrl (by rw [HE.out];exact hil);rw [HE.out] at hN;have hxb:=HL.out.span _ (z1L (d:=dR) hrl) (cs.getD i dC) (by rw [HE.out];exact z1L hil);obtain ⟨x,ex⟩:∃ x,cs.getD i dC=x:=⟨_,rfl⟩;rw [ex] at hx hxs hN hxb;obtain ⟨rr,err⟩:∃ rr,min x.r (z06 t r - r)=rr:=⟨_,rfl⟩;have hrr:1<=rr/\rr<=3:=(by omega);obtain ⟨gs,egs⟩:∃ gs,z15 (z06 t r) r cs (z03 t r) i=gs:=⟨_,rfl⟩;rw [egs] at hN hP HC2 HS3 HM3;obtain ⟨⟨hF1,hF2,hF3,hF4⟩,hPn⟩:=hN;obtain ⟨F,eF⟩:∃ F,z3j gs (z2w r i (z06 t r) x)=F:=⟨_,rfl⟩;rw [eF] at hF1 hF2 hF3
       have hcell:∀ k:Int,z0A (z2w r i (z06 t r) x) k=⟨r,k,rr,x.c,i⟩:=fun k=>by
        simp only [z0A,z2w,err]
       have hpl:z0F gs r i (z06 t r) x=⟨r,F,rr,x.c,i⟩:=by
        unfold z0F;rw [eF,hcell]
       have hgsS:∀ a ∈ gs,z19 t.rows.length a:=fun a ha=>(hP.stands a ha).1
       have hnext:z15 (z06 t r) r cs (z03 t r) (i+1)=gs ++ [⟨r,F,rr,x.c,i⟩]:=by
        show z15 (z06 t r) r cs (z03 t r) i ++ [z0F (z15 (z06 t r) r cs (z03 t r) i) r i (z06 t r) (cs.getD i dC)]=_;rw [egs,ex,hpl]
       simp only [hcell] at hF2 hF3 hF4;have HNX:=Hd hnext;have HF2:=Hd hF2;have HF3:=Hd hF3;have HF4:=Hd hF4;have HGS:=Hd hgsS
       have hgl:gs.length<=40:=by
        have h1:=z9x HL.out r;have h2:=z8v (z06 t r) r cs (z03 t r) i;rw [egs] at h2
        have h3:cs.length<=5:=by
         obtain ⟨k,hk⟩:=HL.out.few;have h4:=hk r;rw [HE.out] at h4
         split at h4 <;> omega
        omega
       obtain ⟨va,vcp,rfl,_⟩:=z04 HS3.out.own;obtain ⟨v0,v1,v2,v3,v4,v5,v6,v7,v8,v9,v10⟩:=hx;have HER:=Hd err;clear hP hPn ex hxs hF2 hF3 hF4 hcell hpl hnext egs eF err hgsS;have hwz:w.heap.size+2<=wp.heap.size:=(by have:=(bL HS3.out.res);omega);have hgbl:gb < wp.heap.size:=(bL HS3.out.grd);have hmbl:=HM3.out.lt;have hvb:∀ b,(Value.slice va gs.length vcp).ownBlock=some b->b < wp.heap.size:=fun b hb=>(z0k HS3.out.own hb).2;go_upto_region 12 with fail
       go_cut [9] (fun s W=>s=.pointer (some ⟨wp.heap.size+1,0,none⟩)/\W=(wp.alloc (.cells #[.string x.s,int i64 x.c,int i64 x.r,int i64 x.a1,int i64 x.b1,int i64 x.a2,int i64 x.b2,int i64 x.a3,int i64 x.b3,int i64 x.a4,int i64 x.b4] 36)).alloc (.cells #[int i64 (r:Int),int i64 0,int i64 rr,int i64 x.c,int i64 (i:Int)] 73))
       case first =>
        by_cases hmn:x.r < z06 t r - r
        ·have hv:Hid (rr=x.r):=Hd (by have:=HER.out;omega);go_wp2_with fail
         go_meet
         case rel=>exact ⟨rfl,by rw [hv.out]⟩
        ·have hv:Hid (rr=z06 t r - r/\(z06 t r - r=x.r->rr=x.r)):=Hd (by have:=HER.out;omega);go_wp2_with fail
         ·go_meet
          case rel=>exact ⟨rfl,by rw [hv.out.1]⟩
         ·rename_i heq
          go_meet
          case rel=>exact ⟨rfl,by rw [hv.out.2 (by omega)]⟩
       case rest =>
        obtain ⟨rfl,rfl⟩:=hcut;have KW:=ze (ze (Below.refl wp.heap.size wp) (.cells #[.string x.s,int i64 x.c,int i64 x.r,int i64 x.a1,int i64 x.b1,int i64 x.a2,int i64 x.b2,int i64 x.a3,int i64 x.b3,int i64 x.a4,int i64 x.b4] 36)) (.cells #[int i64 (r:Int),int i64 0,int i64 rr,int i64 x.c,int i64 (i:Int)] 73);have HS4:=Hd (HS3.out.kept KW);have HM4:Hid (zW _ (gb+1) (z0f gs)):=Hd (HM3.out.of_block (KW.block _ hmbl))
        have HC4:Hid (((wp.alloc (.cells #[.string x.s,int i64 x.c,int i64 x.r,int i64 x.a1,int i64 x.b1,int i64 x.a2,int i64 x.b2,int i64 x.a3,int i64 x.b3,int i64 x.a4,int i64 x.b4] 36)).alloc (.cells #[int i64 (r:Int),int i64 0,int i64 rr,int i64 x.c,int i64 (i:Int)] 73)).heap[wp.heap.size+1]?=some (.cells #[int i64 (r:Int),int i64 0,int i64 rr,int i64 x.c,int i64 (i:Int)] 73)):=Hd (by
         have:=zk (wp.alloc (.cells #[.string x.s,int i64 x.c,int i64 x.r,int i64 x.a1,int i64 x.b1,int i64 x.a2,int i64 x.b2,int i64 x.a3,int i64 x.b3,int i64 x.a4,int i64 x.b4] 36)) (.cells #[int i64 (r:Int),int i64 0,int i64 rr,int i64 x.c,int i64 (i:Int)] 73)
         simpa using this)
        generalize (wp.alloc (.cells #[.string x.s,int i64 x.c,int i64 x.r,int i64 x.a1,int i64 x.b1,int i64 x.a2,int i64 x.b2,int i64 x.a3,int i64 x.b3,int i64 x.a4,int i64 x.b4] 36)).alloc (.cells #[int i64 (r:Int),int i64 0,int i64 rr,int i64 x.c,int i64 (i:Int)] 73)=W1 at HS4 HM4 HC4 |-
        have KF:Hid (∀ (k:Nat) (W:World),k<=F->zW W (gb+1) (z0f gs)->Calls Tryz.prog 53 #[.map (some (gb+1)),.agg #[int i64 (r:Int),int i64 (k:Int),int i64 rr,int i64 x.c,int i64 (i:Int)]] W fun e w'=>e=.returned (.bool (z18 gs ⟨r,k,rr,x.c,i⟩))/\Below W.heap.size W w'):=fun k W hk hT=>by
         have hf:z2a t.rows.length 94 (⟨r,k,rr,x.c,i⟩:GC)=true:=(HF4.out k (by omega)).fits;have h1:=ze6 (x:=⟨r,k,rr,x.c,i⟩) hf (by omega) (by omega) W (gb+1) (z0f gs) hT;rw [zeG (fun a ha=>(HGS.out a ha).fits) hf (by omega) (by omega)] at h1;exact h1
        clear KW HS3 HM3 v0 v1 v2 v3 v4 v5 v6 v7 v8 v9 v10;go_wp2_with fail
        go_loopg [55] (F+1) (fun kx _ W=>∃ k:Nat,k<=F/\F+1 - k<=kx/\Hid (SG w gb ac (some ⟨g,off,none⟩) cc cr t C2 (.slice va gs.length vcp) gs W)/\Hid (zW W (gb+1) (z0f gs))/\Hid (W.heap[wp.heap.size+1]?=some (.cells #[int i64 (r:Int),int i64 (k:Int),int i64 rr,int i64 x.c,int i64 (i:Int)] 73)))
        case atStart=>exact ⟨0,by omega,by omega,HS4,HM4,HC4⟩
        case round =>
         obtain ⟨k,hkF,hkx3,HS6,HM6,HC6⟩:=hrel;clear HS4 HM4 HC4;obtain ⟨⟨b0,b1,b2,b3,b4⟩,fb0,fb1,fb2,fb3,fb4⟩:=z3Q HC6.out;by_cases hkF2:k < F
         ·have KF2:=Hd (KF.out k wr hkF HM6.out);rw [HF3.out k hkF2] at KF2;go_wp2_with fail
          refine KF2.out.mono ?_;rintro e w7 ⟨rfl,hb7⟩;have hC7:=z1q HC6.out hb7;have c1:w7.cell? ⟨wp.heap.size+1,1,none⟩=some (int i64 (k:Int)):=zf hC7;have f1:w7.frozen? ⟨wp.heap.size+1,1,none⟩=false:=zr hC7;have HS7:Hid (SG w gb ac (some ⟨g,off,none⟩) cc cr t C2 (.slice va gs.length vcp) gs (w7.setCell ⟨wp.heap.size+1,1,none⟩ (int i64 ((k:Int)+1)))):=(HS6.out.kept hb7).bkc ((Bk.refl (wp.heap.size+1) w7).set (p:=⟨wp.heap.size+1,1,none⟩) (.inl rfl) _) (by omega) (by omega) (fun b hb=>by have:=hvb b hb;omega);have HM7:Hid (zW (w7.setCell ⟨wp.heap.size+1,1,none⟩ (int i64 ((k:Int)+1))) (gb+1) (z0f gs)):=HM6.out.of_block ((Below.heap_setCell _ _ _ _ (by show gb+1 ≠ wp.heap.size+1;omega)).trans (hb7.block _ HM6.out.lt));have HC7:Hid ((w7.setCell ⟨wp.heap.size+1,1,none⟩ (int i64 ((k:Int)+1))).heap[wp.heap.size+1]?=some (.cells #[int i64 (r:Int),int i64 ((k:Int)+1),int i64 rr,int i64 x.c,int i64 (i:Int)] 73)):=zM hC7 _;clear hC7 hb7 HS6 HC6 HM6 KF2 b0 b1 b2 b3 b4 fb0 fb1 fb2 fb3 fb4;go_wp2;go_roundg (gk - 1)
          case measure=>omega
          case rel=>exact ⟨k+1,by omega,by omega,HS7,HM7,HC7⟩
         ·obtain rfl:k=F:=by omega
          have KF2:=Hd (KF.out k wr hkF HM6.out);rw [HF2.out] at KF2;obtain ⟨i0,hi0,hz0',hz1',hz2'⟩:=info_parts zfq;have hfk:z2a t.rows.length 94 (⟨r,k,rr,x.c,i⟩:GC)=true:=(HF4.out k (by omega)).fits
          have hlk:(z0f gs).length<=40 * 752:=by
           have:=z6A (R:=t.rows.length) (C:=94) (by omega) (by omega) gs (fun a ha=>(HGS.out a ha).fits);omega
          have KT:=Hd (fun (W:World) (hT:zW W (gb+1) (z0f gs))=>zg1 (x:=⟨r,k,rr,x.c,i⟩) hfk (by omega) (by omega) W (gb+1) (z0f gs) hT hlk);clear hfk hlk;go_wp2_with fail
          refine KF2.out.mono ?_;rintro e w7 ⟨rfl,hb7⟩;have hS7:=HS6.out.kept hb7;have hC7:=z1q HC6.out hb7;have hM7:zW w7 (gb+1) (z0f gs):=HM6.out.of_block (hb7.block _ HM6.out.lt);obtain ⟨⟨d0,d1,d2,d3,d4⟩,_⟩:=z3Q hC7;clear b0 b1 b2 b3 b4 fb0 fb1 fb2 fb3 fb4 KF2;go_wp2_with fail
          refine (KT.out _ hM7).mono ?_;rintro e w8 ⟨⟨vt,rfl⟩,hM8,hg8⟩;have hS8:=hS7.take hM7 (by omega) hg8;have hC8:=z0e hC7 hg8 (fun e=>by injection e with e;exact z6l hM7 hC7 e.symm);obtain ⟨⟨d0',d1',d2',d3',d4'⟩,_⟩:=z3Q hC8;obtain ⟨⟨e0,e1,e2⟩,_⟩:=z6j hS8.grd;have hla:=ze (Below.refl w8.heap.size w8) (.cells #[int i64 (r:Int),int i64 (k:Int),int i64 rr,int i64 x.c,int i64 (i:Int)] 73);have hSA:=hS8.kept hla;have hCA:=z1q hC8 hla;have hMA:zW _ (gb+1) _:=hM8.of_block (hla.block _ hM8.lt);have hXN:=zk w8 (.cells #[int i64 (r:Int),int i64 (k:Int),int i64 rr,int i64 x.c,int i64 (i:Int)] 73);have hz8:w.heap.size+2<=w8.heap.size:=(by have:=(bL hS8.res);omega);clear d0 d1 d2 d3 d4;go_wp2_with (at_builtin;refine wpList_append_own _ rfl _ _ 66 rfl (w.heap.size+2) 73 i0 _ 5 40 Tryz.underlying66 hi0 hz0' hz1' hz2' rfl (by decide) _ _ _ rfl hSA.own ⟨w8.heap.size,0,none⟩ 1 1 (z6X ⟨r,k,rr,x.c,i⟩) rfl rfl (z2u hXN) (by simp [z6X,Value.oneCell']) (by unfold maxLen;omega) (by omega) (by simp;omega) ?_)
          intro v' wq hown' hg' _;have hUb:∀ b,(Value.slice va gs.length vcp).ownBlock=some b->w.heap.size+2<=b:=fun b hb=>(z0k hSA.own hb).1;have hB8:Below w.heap.size w wq:=hSA.bel.grown hg' hSA.bel.size (fun j e=>by have:=hUb j e;omega);have hT8:=z0e hSA.tbl hg' (z0h (zl hSA.own hSA.tbl (by decide)));have hR8:=z0e hSA.res hg' (z0h (zl hSA.own hSA.res (by decide)));have hG8:=z0e hSA.grd hg' (z0h (zl hSA.own hSA.grd (by decide)));have hC9:=z0e hCA hg' (zf6 (fun b hb=>by have:=hvb b hb;omega))
          have hM9:zW wq (gb+1) (z0f (gs ++ [(⟨r,k,rr,x.c,i⟩:GC)])):=by
           rw [z9t];exact hMA.of_block (hg'.block _ hMA.lt (zbl hMA hSA.own))
          obtain ⟨ve,vq,rfl,_⟩:=z04 hown'
          have hO8:wq.ownsRow (w.heap.size+2) 73 5 (.slice ve (gs.length+1) vq) (gs ++ [(⟨r,k,rr,x.c,i⟩:GC)]).length ((gs ++ [(⟨r,k,rr,x.c,i⟩:GC)]).flatMap z6X):=by
           rw [List.length_append,List.flatMap_append]
           simpa using hown'
          have hgc:gb ≠ wp.heap.size+1:=(by omega);have g2':wq.cell? ⟨gb,2,none⟩=some (.slice va gs.length vcp):=zf hG8;have gf2:wq.frozen? ⟨gb,2,none⟩=false:=zr hG8;have hG9:(wq.setCell ⟨gb,2,none⟩ (.slice ve (gs.length+1) vq)).heap[gb]?=some (.cells #[int i64 (t.rows.length:Int),int i64 C2,(.slice ve (gs.length+1) vq)] 68):=zM hG8 _;have HC9:Hid ((wq.setCell ⟨gb,2,none⟩ (.slice ve (gs.length+1) vq)).heap[wp.heap.size+1]?=some (.cells #[int i64 (r:Int),int i64 (k:Int),int i64 rr,int i64 x.c,int i64 (i:Int)] 73)):=(Below.heap_setCell _ _ _ _ (fun e=>hgc e.symm)).trans hC9;have HS9:Hid (SG w gb ac (some ⟨g,off,none⟩) cc cr t C2 (.slice ve (gs.length+1) vq) (gs ++ [(⟨r,k,rr,x.c,i⟩:GC)]) (wq.setCell ⟨gb,2,none⟩ (.slice ve (gs.length+1) vq))):=⟨hB8.setCell (by show _<=gb;omega) _,(Below.heap_setCell _ _ _ _ (by show _ ≠ gb;omega)).trans hT8,(Below.heap_setCell _ _ _ _ (by show _ ≠ gb;omega)).trans hR8,hG9,z0N hO8 hG8 (by decide) _⟩;have HM9:Hid (zW (wq.setCell ⟨gb,2,none⟩ (.slice ve (gs.length+1) vq)) (gb+1) (z0f (gs ++ [(⟨r,k,rr,x.c,i⟩:GC)]))):=hM9.of_block (Below.heap_setCell _ _ _ _ (by show gb+1 ≠ gb;omega));clear hown' hg' hUb hB8 hT8 hR8 hG8 hC8 hC9 hM9 hO8 hSA hCA hMA hXN hla hS7 hC7 hM7 hS8 hM8 hg8 d0' d1' d2' d3' d4' e0 e1 e2 HS6 HC6 HM6 hb7 hG9 KT KF;go_upto_region 17 with fail
          clear g2' gf2;generalize wq.setCell ⟨gb,2,none⟩ (.slice ve (gs.length+1) vq)=w9 at HS9 HC9 HM9 |-;obtain ⟨⟨j0,j1,j2,j3,j4⟩,_⟩:=z3Q HC9.out;obtain ⟨⟨l0,l1,l2⟩,m0,m1,m2⟩:=z6j HS9.out.grd
          rcases Int.lt_trichotomy C2 ((k:Int)+x.c) with hmx | hmx | hmx
          ·have hv:Hid (max C2 ((k:Int)+x.c)=(k:Int)+x.c):=Hd (by omega);have HSZ:Hid (SG w gb ac (some ⟨g,off,none⟩) cc cr t (max C2 ((k:Int)+x.c)) (.slice ve (gs.length+1) vq) (gs ++ [(⟨r,k,rr,x.c,i⟩:GC)]) (w9.setCell ⟨gb,1,none⟩ (int i64 (max C2 ((k:Int)+x.c))))):=⟨HS9.out.bel.setCell (by show _<=gb;omega) _,(Below.heap_setCell _ _ _ _ (by show _ ≠ gb;omega)).trans HS9.out.tbl,(Below.heap_setCell _ _ _ _ (by show _ ≠ gb;omega)).trans HS9.out.res,zM HS9.out.grd _,z0N HS9.out.own HS9.out.grd (by decide) _⟩;have HMZ:Hid (zW (w9.setCell ⟨gb,1,none⟩ (int i64 (max C2 ((k:Int)+x.c)))) (gb+1) (z0f (gs ++ [(⟨r,k,rr,x.c,i⟩:GC)]))):=HM9.out.of_block (Below.heap_setCell _ _ _ _ (by show gb+1 ≠ gb;omega));have HCZ:Hid (max C2 ((k:Int)+x.c)=z0v (max 1 (t.cols.length:Int)) (gs ++ [(⟨r,k,rr,x.c,i⟩:GC)])):=Hd (by rw [z57,<-HC2.out]);rw [<-HNX.out] at HSZ HCZ HMZ;rw [hv.out] at HSZ HCZ HMZ;clear HS9 HC9 HM9;go_wp2
           all_goals
            go_roundg (cs.length - (i+1))
            case measure=>omega
            case rel=>exact ⟨i+1,_,(.slice ve (gs.length+1) vq),by go_num,by omega,by omega,HCZ,HSZ,HMZ⟩
          ·have hv:Hid (max C2 ((k:Int)+x.c)=(k:Int)+x.c):=Hd (by omega);have HSZ:Hid (SG w gb ac (some ⟨g,off,none⟩) cc cr t (max C2 ((k:Int)+x.c)) (.slice ve (gs.length+1) vq) (gs ++ [(⟨r,k,rr,x.c,i⟩:GC)]) (w9.setCell ⟨gb,1,none⟩ (int i64 (max C2 ((k:Int)+x.c))))):=⟨HS9.out.bel.setCell (by show _<=gb;omega) _,(Below.heap_setCell _ _ _ _ (by show _ ≠ gb;omega)).trans HS9.out.tbl,(Below.heap_setCell _ _ _ _ (by show _ ≠ gb;omega)).trans HS9.out.res,zM HS9.out.grd _,z0N HS9.out.own HS9.out.grd (by decide) _⟩;have HMZ:Hid (zW (w9.setCell ⟨gb,1,none⟩ (int i64 (max C2 ((k:Int)+x.c)))) (gb+1) (z0f (gs ++ [(⟨r,k,rr,x.c,i⟩:GC)]))):=HM9.out.of_block (Below.heap_setCell _ _ _ _ (by show gb+1 ≠ gb;omega));have HCZ:Hid (max C2 ((k:Int)+x.c)=z0v (max 1 (t.cols.length:Int)) (gs ++ [(⟨r,k,rr,x.c,i⟩:GC)])):=Hd (by rw [z57,<-HC2.out]);rw [<-HNX.out] at HSZ HCZ HMZ;rw [hv.out] at HSZ HCZ HMZ;clear HS9 HC9 HM9;go_wp2
           all_goals
            go_roundg (cs.length - (i+1))
            case measure=>omega
            case rel=>exact ⟨i+1,_,(.slice ve (gs.length+1) vq),by go_num,by omega,by omega,HCZ,HSZ,HMZ⟩
          ·have hv:Hid (max C2 ((k:Int)+x.c)=C2):=Hd (by omega);have HSZ:Hid (SG w gb ac (some ⟨g,off,none⟩) cc cr t (max C2 ((k:Int)+x.c)) (.slice ve (gs.length+1) vq) (gs ++ [(⟨r,k,rr,x.c,i⟩:GC)]) (w9.setCell ⟨gb,1,none⟩ (int i64 (max C2 ((k:Int)+x.c))))):=⟨HS9.out.bel.setCell (by show _<=gb;omega) _,(Below.heap_setCell _ _ _ _ (by show _ ≠ gb;omega)).trans HS9.out.tbl,(Below.heap_setCell _ _ _ _ (by show _ ≠ gb;omega)).trans HS9.out.res,zM HS9.out.grd _,z0N HS9.out.own HS9.out.grd (by decide) _⟩;have HMZ:Hid (zW (w9.setCell ⟨gb,1,none⟩ (int i64 (max C2 ((k:Int)+x.c)))) (gb+1) (z0f (gs ++ [(⟨r,k,rr,x.c,i⟩:GC)]))):=HM9.out.of_block (Below.heap_setCell _ _ _ _ (by show gb+1 ≠ gb;omega));have HCZ:Hid (max C2 ((k:Int)+x.c)=z0v (max 1 (t.cols.length:Int)) (gs ++ [(⟨r,k,rr,x.c,i⟩:GC)])):=Hd (by rw [z57,<-HC2.out]);rw [<-HNX.out] at HSZ HCZ HMZ;rw [hv.out] at HSZ HCZ HMZ;clear HS9 HC9 HM9;go_wp2
           all_goals
            go_roundg (cs.length - (i+1))
            case measure=>omega
            case rel=>exact ⟨i+1,_,(.slice ve (gs.length+1) vq),by go_num,by omega,by omega,HCZ,HSZ,HMZ⟩
      ·obtain rfl:i=cs.length:=by omega
       have HSE:Hid (SG w gb ac (some ⟨g,off,none⟩) cc cr t C2 vg2 (z03 t (r+1)) wp):=by
        show SG _ _ _ _ _ _ _ _ _ (z15 (z06 t r) r (t.rows.getD r dR).cells (z03 t r) (t.rows.getD r dR).cells.length) _;rw [HE.out];exact HS3.out
       have HME:Hid (zW wp (gb+1) (z0f (z03 t (r+1)))):=by
        show zW _ _ (z0f (z15 (z06 t r) r (t.rows.getD r dR).cells (z03 t r) (t.rows.getD r dR).cells.length));rw [HE.out];exact HM3.out
       have HCE:Hid (C2=z0v (max 1 (t.cols.length:Int)) (z03 t (r+1))):=by
        show C2=z0v _ (z15 (z06 t r) r (t.rows.getD r dR).cells (z03 t r) (t.rows.getD r dR).cells.length);rw [HE.out];exact HC2.out
       clear HS3 HC2 HM3;go_wp2;go_roundg (t.rows.length - (r+1))
       case measure=>omega
       case rel=>exact ⟨r+1,C2,vg2,by go_num,by omega,by omega,HCE,HSE,HME⟩
    ·obtain rfl:r=t.rows.length:=by omega
     obtain ⟨va,vq,rfl,_⟩:=z04 HS1.out.own;obtain ⟨⟨l0,l1,l2⟩,_⟩:=z6j HS1.out.grd;obtain ⟨⟨x0,x1,x2⟩,y0,y1,y2⟩:=z6j HS1.out.res;have h1:=zM (p:=0) HS1.out.res (int i64 (t.rows.length:Int));have h2:=zM (p:=1) h1 (int i64 C);have o1:=z0N (p:=0) HS1.out.own HS1.out.res (by decide) (int i64 (t.rows.length:Int));have o2:=z0N (p:=1) o1 h1 (by decide) (int i64 C);have o3:=z0N (p:=2) o2 h2 (by decide) (.slice va (z03 t t.rows.length).length vq);have HO:=Hd (z0W o3 (by omega:w.heap.size<=w.heap.size+2));have HB:=Hd (((HS1.out.bel.setCell (p:=⟨w.heap.size+1,0,none⟩) (by show _<=w.heap.size+1;omega) (int i64 (t.rows.length:Int))).setCell (p:=⟨w.heap.size+1,1,none⟩) (by show _<=w.heap.size+1;omega) (int i64 C)).setCell (p:=⟨w.heap.size+1,2,none⟩) (by show _<=w.heap.size+1;omega) (.slice va (z03 t t.rows.length).length vq));clear h1 h2 o1 o2 o3 HS1 HM1;go_wp2;exact bodyPost_ret (v:=.agg #[int i64 (t.rows.length:Int),int i64 C,(.slice va (z03 t t.rows.length).length vq)]) (by simp [results,Tryz.results35,go_sem,x0,x1,x2]) rfl ⟨_,by rw [HG.out,HCC.out];rfl,by rw [HG.out];exact HO.out,HB.out⟩
end Go.Proofs.YtggmjiddadjilalGreat
