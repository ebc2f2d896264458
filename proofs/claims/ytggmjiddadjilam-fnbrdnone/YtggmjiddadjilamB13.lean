/-
  PROVED HERE: what is known of a table that was drawn. Also: 10 more texts of the same proof.
-/
import Derived.Test.YtggmjiddadjilamB12
set_option maxRecDepth 1000000
set_option maxHeartbeats 40000000
namespace Go.Proofs.Ytggmjiddadjilam
open Go.RowKit
structure z0o (t:T):Prop where
 rows:t.rows.length≤9
 cols:t.cols.length≤9
 head:-1≤t.head∧t.head≤9
 foot:-1≤t.foot∧t.foot≤9
 gap:-1≤t.gap∧t.gap≤4
 cells:∀ r ∈ t.rows,∀ x ∈ r.cells,Cx x
 few:∃ k,∀ i,(t.rows.getD i dR).cells.length≤if i=k then 5 else 4
theorem z1G {w:World} {base:Nat} {v:Value} {ur:List (Value × R)} (h1:w.ownsRow base 33 2 v ur.length (ur.flatMap zS)) (h2:∀ p ∈ ur,z0p w base p.1 p.2.cells) (hs:∀ p ∈ ur,∀ x ∈ p.2.cells,Cx x):zD w base v (ur.map (·.2)):=by
 have hl:(ur.map (·.2)).length=ur.length:=(by simp)
 rcases h1.2 with ⟨rfl,hn⟩ | ⟨g,cap,cur,rfl,hg,hc,h3,h4,_⟩
 ·exact ⟨none,0,by rw [hl,hn],by rw [hl];omega,by unfold maxLen;omega,fun i hi=>by rw [hl] at hi;omega⟩
 ·refine ⟨_,cap,by rw [hl],by rw [hl];exact h3,h4,fun i hi=>⟨g,0,rfl,(bL hc),hg,?_⟩⟩;rw [hl] at hi
  have hx:∀ j,j < 2→w.cell? ⟨g,i * 2+j,none⟩=(zS ur[i])[j]?:=fun j hj=>by
   have e:=z16 zS 2 (fun _=>rfl) ur i hi j hj;rw [z1E h1 (u:=(zS ur[i])[j]'(by show j < 2;exact hj)) (by rw [e];simp)];simp
  have hm:=List.getElem_mem hi;dsimp only;rw [z0Q dR (by rw [hl];exact hi),Nat.zero_add,List.getElem_map];exact ⟨ur[i].1,hx 0 (by omega),hx 1 (by omega),(h2 _ hm).at (fun x hx=>(hs _ hm x hx).1)⟩
theorem z6k {t:T} {ur:List (Value × R)} (h:zI t=true) (e:t.rows=ur.map (·.2)):(1≤ur.length∧ur.length≤8)∧t.cols.length≤8∧(0≤t.head∧t.head≤8)∧(0≤t.foot∧t.foot≤8)∧0≤t.gap∧t.gap≤3:=by
 have hl:t.rows.length=ur.length:=(by rw [e];simp);simp only [zI,z0K,inB,z0X,Bool.and_eq_true,decide_eq_true_eq] at h;omega
theorem z2j {ur:List (Value × R)} (hs:∀ p ∈ ur,p.2.cells.length≤4∧∀ x ∈ p.2.cells,Cx x):∃ k,∀ i,((ur.map (·.2)).getD i dR).cells.length≤if i=k then 5 else 4:=by
 refine ⟨0,fun i=>?_⟩
 have h4:((ur.map (·.2)).getD i dR).cells.length≤4:=by
  by_cases hi:i < ur.length
  ·rw [z0Q dR (by simpa using hi),List.getElem_map];exact (hs _ (List.getElem_mem hi)).1
  ·simp [List.getD,hi,dR]
 split <;> omega
theorem z1H {ur:List (Value × R)} (hs:∀ p ∈ ur,p.2.cells.length≤4∧∀ x ∈ p.2.cells,Cx x):∀ r ∈ ur.map (·.2),∀ x ∈ r.cells,Cx x:=fun r hr x hx=>by
 obtain ⟨p,hp,rfl⟩:=List.mem_map.1 hr;exact (hs p hp).2 x hx
def gOf (t:T):G:=if zI t=true then ⟨t.rows.length,zQ (max 1 (t.cols.length:Int)) (zR t),zR t⟩ else ⟨0,0,[]⟩
theorem z2C {t:T} (h:zI t=true) (hD:z0o t):Low t:=by
 have hb:=z2d h;have h2:=h;simp only [zI,z0K,inB,Bool.and_eq_true,decide_eq_true_eq,List.all_eq_true,z0A,cB,zz] at h2;refine ⟨hb.1.2,fun r hr x hx=>?_,hD.few,⟨hb.2.1.1,hb.2.1.2⟩,⟨hb.2.2.1,by omega⟩⟩;have h3:=(h2.2.2.2.2 r hr).2 x hx;have h4:=hD.cells r hr x hx;exact ⟨by omega,by have:=h4.2;omega,by have:=h4.2;omega⟩
structure OfJ (n0:Nat) (W0:World) (ac ar:Option Addr) (cc cr:Nat) (t:T) (L:Nat→Bool) (w:World) (v3 v8 v9 v10 v11 v12 v13 v14 v15:Value):Prop where
 f0:L 0=true→v8=.pointer (some ⟨n0,3,none⟩)
 f1:L 1=true→v9=.slice ar t.rows.length cr
 f2:L 2=true→v10=.int .i64 (t.rows.length:Int)
 f3:L 3=true→v11=.pointer (some ⟨n0,0,none⟩)
 f4:L 4=true→v12=.slice ac t.cols.length cc
 f5:L 5=true→v13=.int .i64 (t.cols.length:Int)
 f6:L 6=true→v14=.int .i64 (max 1 (t.cols.length:Int))
 f7:L 7=true→v15=.agg #[.int .i64 (t.rows.length:Int),.int .i64 (max 1 (t.cols.length:Int)),.slice none 0 0]
 f8:L 8=true→∃ g,v3=.pointer (some ⟨g,0,none⟩)∧W0.heap.size≤g∧(L 9=false→w.heap[g]?=some (.cells #[.int .i64 0,.int .i64 0,.slice none 0 0] 98))
 f9:L 9=true→∃ g,v3=.pointer (some ⟨g,0,none⟩)∧W0.heap.size≤g∧w.heap[g]?=some (.cells #[.int .i64 (t.rows.length:Int),.int .i64 (max 1 (t.cols.length:Int)),.slice none 0 0] 98)
 o9:L 9=true→L 8=true
 bk:Below W0.heap.size W0 w
def ofJ (n0:Nat) (W0:World) (ac ar:Option Addr) (cc cr:Nat) (t:T) (mk:Value→Value→Value→Value→Value→Value→Value→Value→Value→Act) (L:Nat→Bool) (a:Act) (w:World):Prop:=∃ v3 v8 v9 v10 v11 v12 v13 v14 v15:Value,a=mk v3 v8 v9 v10 v11 v12 v13 v14 v15∧OfJ n0 W0 ac ar cc cr t L w v3 v8 v9 v10 v11 v12 v13 v14 v15
theorem z0U {w:World} {g:Nat} {x0 x1 x2:Value} {t:TypeId} (h:w.heap[g]?=some (.cells #[x0,x1,x2] t)) :
  (w.cell? ⟨g,0,none⟩=some x0∧w.cell? ⟨g,1,none⟩=some x1∧w.cell? ⟨g,2,none⟩=some x2)∧w.frozen? ⟨g,0,none⟩=false∧w.frozen? ⟨g,1,none⟩=false∧w.frozen? ⟨g,2,none⟩=false :=
 ⟨⟨zc h,zc h,zc h⟩,zn h,zn h,zn h⟩
structure SG (w:World) (gb:Nat) (ac ar:Option Addr) (cc cr:Nat) (t:T) (C:Int) (vg:Value) (gs:List GC) (W:World):Prop where
 bel:Below w.heap.size w W
 tbl:W.heap[w.heap.size]?=some (.cells #[.slice ac t.cols.length cc,.int .i64 t.head,.int .i64 t.foot,.slice ar t.rows.length cr,.int .i64 t.gap] 26)
 res:W.heap[w.heap.size+1]?=some (.cells #[.int .i64 0,.int .i64 0,.slice none 0 0] 98)
 grd:W.heap[gb]?=some (.cells #[.int .i64 (t.rows.length:Int),.int .i64 C,vg] 98)
 own:z20 W (w.heap.size+2) vg gs
theorem z0M {w:World} {g:Nat} {x0 x1 x2 x3 x4:Value} {t:TypeId} (h:w.heap[g]?=some (.cells #[x0,x1,x2,x3,x4] t)) :
  (w.cell? ⟨g,0,none⟩=some x0∧w.cell? ⟨g,1,none⟩=some x1∧w.cell? ⟨g,2,none⟩=some x2∧w.cell? ⟨g,3,none⟩=some x3∧w.cell? ⟨g,4,none⟩=some x4)∧w.frozen? ⟨g,0,none⟩=false∧w.frozen? ⟨g,1,none⟩=false∧w.frozen? ⟨g,2,none⟩=false∧w.frozen? ⟨g,3,none⟩=false∧w.frozen? ⟨g,4,none⟩=false :=
 ⟨⟨zc h,zc h,zc h,zc h,zc h⟩,zn h,zn h,zn h,zn h,zn h⟩
theorem zU {w w':World} {g:Nat} {o:Obj} (h:w.heap[g]?=some o) (hb:Below w.heap.size w w'):w'.heap[g]?=some o:=(hb.block g (bL h)).trans h
theorem z6m {w w':World} {base:Nat} {e:TypeId} {sz:Nat} {v:Value} {m:Nat} {xs:List Value} (h:w.ownsRow base e sz v m xs) (k:Below w.heap.size w w'):w'.ownsRow base e sz v m xs :=
 ⟨h.1,h.2.elim Or.inl (fun ⟨g,cap,cur,hv,hg,hc,q⟩=>Or.inr ⟨g,cap,cur,hv,hg,zU hc k,q⟩)⟩
theorem SG.kept {w W W':World} {gb:Nat} {ac ar:Option Addr} {cc cr:Nat} {t:T} {C:Int} {vg:Value} {gs:List GC} (h:SG w gb ac ar cc cr t C vg gs W) (k:Below W.heap.size W W'):SG w gb ac ar cc cr t C vg gs W' :=
 ⟨h.bel.trans (k.mono h.bel.size),zU h.tbl k,zU h.res k,zU h.grd k,z6m h.own k⟩
theorem z4W {v:Value} {g:Nat} (h:∀ b,v.ownBlock=some b→b ≠ g):some g ≠ v.ownBlock:=fun e=>h g e.symm rfl
theorem SG.bkc {w W W':World} {gb cb:Nat} {ac ar:Option Addr} {cc cr:Nat} {t:T} {C:Int} {vg:Value} {gs:List GC} (h:SG w gb ac ar cc cr t C vg gs W) (k:Bk cb W W') (hcb:w.heap.size+2≤cb) (hne:gb ≠ cb) (hv:∀ b,vg.ownBlock=some b→b ≠ cb):SG w gb ac ar cc cr t C vg gs W' :=
 ⟨h.bel.trans (k.below h.bel.size (by omega)),(k.block _ (bL h.tbl) (by omega)).trans h.tbl,(k.block _ (bL h.res) (by omega)).trans h.res,(k.block _ (bL h.grd) hne).trans h.grd,
  z00 (n:=w.heap.size+2) (b1:=some cb) (b2:=none) h.own ⟨k.size,fun j _ hj h1 _=>k.block j hj (fun e=>h1 (by rw [e]))⟩ (Nat.le_refl _) (by
   cases hb:vg.ownBlock with
   | none=>exact .inl rfl
   | some b=>exact .inr (fun e=>by injection e with e;exact hv b hb e)) (by cases vg.ownBlock <;> simp)⟩
theorem z1j (a b:Int) (w:World) :
  Calls Try.prog 42 #[.agg #[.int .i64 a,.int .i64 b]] w fun e w'=>e=.returned (.bool (z04 a b))∧w'=w.alloc (.cells #[.int .i64 a,.int .i64 b] 30):=by
 by_cases h0:a=0
 ·subst h0;go_enter Try.func42,Try.ntmps42;go_wp2;go_ret;exact ⟨zr (z49 b).symm,rfl⟩
 by_cases h4:a=4
 ·subst h4;go_enter Try.func42,Try.ntmps42;go_wp2;go_ret;exact ⟨zr (z4a b).symm,rfl⟩
 by_cases h1:a=1
 ·subst h1;go_enter Try.func42,Try.ntmps42;go_wp2_with (go_at_call 41;refine (zx _ _ _ _).mono ?_;rintro e w' ⟨rfl,rfl⟩)
  go_ret;exact ⟨zr (z2q b (by omega) (by omega)).symm,rfl⟩
 by_cases h2:a=2
 ·subst h2;go_enter Try.func42,Try.ntmps42;go_wp2_with (go_at_call 41;refine (zx _ _ _ _).mono ?_;rintro e w' ⟨rfl,rfl⟩)
  go_ret;exact ⟨zr (z2q b (by omega) (by omega)).symm,rfl⟩
 by_cases h3:a=3
 ·subst h3;go_enter Try.func42,Try.ntmps42;go_wp2_with (go_at_call 41;refine (zx _ _ _ _).mono ?_;rintro e w' ⟨rfl,rfl⟩)
  go_ret;exact ⟨zr (z2q b (by omega) (by omega)).symm,rfl⟩
 have e0:(a == 0)=false:=beq_eq_false_iff_ne.2 h0;have e1:(a == 1)=false:=beq_eq_false_iff_ne.2 h1;have e2:(a == 2)=false:=beq_eq_false_iff_ne.2 h2;have e3:(a == 3)=false:=beq_eq_false_iff_ne.2 h3;have e4:(a == 4)=false:=beq_eq_false_iff_ne.2 h4;have HB:Hid (z04 a b=false):=z3H b h0 h4 (by omega);clear h0 h1 h2 h3 h4;go_enter Try.func42,Try.ntmps42;go_wp2;go_ret;exact ⟨zr HB.out.symm,rfl⟩
theorem z3r (s:ByteArray) (c r a1 b1 a2 b2 a3 b3 a4 b4:Int) (w:World) (hs:s.size≤maxLen) :
  Calls Try.prog 17 #[.agg #[.string s,.int .i64 c,.int .i64 r,.int .i64 a1,.int .i64 b1,.int .i64 a2,.int .i64 b2,.int .i64 a3,.int .i64 b3,.int .i64 a4,.int .i64 b4]] w fun e w'=>e=.returned (.bool (zz s c r a1 b1 a2 b2 a3 b3 a4 b4))∧Below w.heap.size w w':=by
 cases h0:z05 s
 ·
  as_aux_lemma =>
   have HB:Hid (zz s c r a1 b1 a2 b2 a3 b3 a4 b4=false):=Hid.mk (by simp [zz,h0]);go_enter Try.func17,Try.ntmps17;go_wp2_with (first | (go_at_call 40;refine (z1c _ _ hs).mono ?_;rintro e w' ⟨rfl,rfl⟩) | (go_at_call 41;refine (zx _ _ _ _).mono ?_;rintro e w' ⟨rfl,rfl⟩) | (go_at_call 42;refine (z1j _ _ _).mono ?_;rintro e w' ⟨rfl,rfl⟩))
   go_ret;exact ⟨zr HB.out.symm,by repeat (first | exact Below.refl _ _ | apply zb)⟩
 cases h1:inB c 1 4
 ·
  as_aux_lemma =>
   have HB:Hid (zz s c r a1 b1 a2 b2 a3 b3 a4 b4=false):=Hid.mk (by simp [zz,h0,h1]);go_enter Try.func17,Try.ntmps17;go_wp2_with (first | (go_at_call 40;refine (z1c _ _ hs).mono ?_;rintro e w' ⟨rfl,rfl⟩) | (go_at_call 41;refine (zx _ _ _ _).mono ?_;rintro e w' ⟨rfl,rfl⟩) | (go_at_call 42;refine (z1j _ _ _).mono ?_;rintro e w' ⟨rfl,rfl⟩))
   go_ret;exact ⟨zr HB.out.symm,by repeat (first | exact Below.refl _ _ | apply zb)⟩
 cases h2:inB r 1 4
 ·
  as_aux_lemma =>
   have HB:Hid (zz s c r a1 b1 a2 b2 a3 b3 a4 b4=false):=Hid.mk (by simp [zz,h0,h1,h2]);go_enter Try.func17,Try.ntmps17;go_wp2_with (first | (go_at_call 40;refine (z1c _ _ hs).mono ?_;rintro e w' ⟨rfl,rfl⟩) | (go_at_call 41;refine (zx _ _ _ _).mono ?_;rintro e w' ⟨rfl,rfl⟩) | (go_at_call 42;refine (z1j _ _ _).mono ?_;rintro e w' ⟨rfl,rfl⟩))
   go_ret;exact ⟨zr HB.out.symm,by repeat (first | exact Below.refl _ _ | apply zb)⟩
 cases h3:z04 a1 b1
 ·
  as_aux_lemma =>
   have HB:Hid (zz s c r a1 b1 a2 b2 a3 b3 a4 b4=false):=Hid.mk (by simp [zz,h0,h1,h2,h3]);go_enter Try.func17,Try.ntmps17;go_wp2_with (first | (go_at_call 40;refine (z1c _ _ hs).mono ?_;rintro e w' ⟨rfl,rfl⟩) | (go_at_call 41;refine (zx _ _ _ _).mono ?_;rintro e w' ⟨rfl,rfl⟩) | (go_at_call 42;refine (z1j _ _ _).mono ?_;rintro e w' ⟨rfl,rfl⟩))
   go_ret;exact ⟨zr HB.out.symm,by repeat (first | exact Below.refl _ _ | apply zb)⟩
 cases h4:z04 a2 b2
 ·
  as_aux_lemma =>
   have HB:Hid (zz s c r a1 b1 a2 b2 a3 b3 a4 b4=false):=Hid.mk (by simp [zz,h0,h1,h2,h3,h4]);go_enter Try.func17,Try.ntmps17;go_wp2_with (first | (go_at_call 40;refine (z1c _ _ hs).mono ?_;rintro e w' ⟨rfl,rfl⟩) | (go_at_call 41;refine (zx _ _ _ _).mono ?_;rintro e w' ⟨rfl,rfl⟩) | (go_at_call 42;refine (z1j _ _ _).mono ?_;rintro e w' ⟨rfl,rfl⟩))
   go_ret;exact ⟨zr HB.out.symm,by repeat (first | exact Below.refl _ _ | apply zb)⟩
 cases h5:z04 a3 b3
 ·
  as_aux_lemma =>
   have HB:Hid (zz s c r a1 b1 a2 b2 a3 b3 a4 b4=false):=Hid.mk (by simp [zz,h0,h1,h2,h3,h4,h5]);go_enter Try.func17,Try.ntmps17;go_wp2_with (first | (go_at_call 40;refine (z1c _ _ hs).mono ?_;rintro e w' ⟨rfl,rfl⟩) | (go_at_call 41;refine (zx _ _ _ _).mono ?_;rintro e w' ⟨rfl,rfl⟩) | (go_at_call 42;refine (z1j _ _ _).mono ?_;rintro e w' ⟨rfl,rfl⟩))
   go_ret;exact ⟨zr HB.out.symm,by repeat (first | exact Below.refl _ _ | apply zb)⟩
 as_aux_lemma =>
  have HB:Hid (zz s c r a1 b1 a2 b2 a3 b3 a4 b4=z04 a4 b4):=Hid.mk (by simp [zz,h0,h1,h2,h3,h4,h5]);go_enter Try.func17,Try.ntmps17;go_wp2_with (first | (go_at_call 40;refine (z1c _ _ hs).mono ?_;rintro e w' ⟨rfl,rfl⟩) | (go_at_call 41;refine (zx _ _ _ _).mono ?_;rintro e w' ⟨rfl,rfl⟩) | (go_at_call 42;refine (z1j _ _ _).mono ?_;rintro e w' ⟨rfl,rfl⟩))
  go_ret;exact ⟨zr HB.out.symm,by repeat (first | exact Below.refl _ _ | apply zb)⟩
theorem z40 (n:Int) (w:World):(Instr.typeAssert (.iface 147 (.agg #[.int .i64 n])) 130 149 true).run Try.prog w=.ok (.tuple #[.agg #[.int .i64 0],.bool false]) w:=by kernel_rfl
theorem z4p (n:Int) (w:World):(Instr.typeAssert (.iface 147 (.agg #[.int .i64 n])) 130 151 true).run Try.prog w=.ok (.tuple #[.agg #[.int .i64 0],.bool false]) w:=by kernel_rfl
theorem z3B (n:Int) (w:World):(Instr.typeAssert (.iface 149 (.agg #[.int .i64 n])) 130 149 true).run Try.prog w=.ok (.tuple #[.agg #[.int .i64 n],.bool true]) w:=by kernel_rfl
theorem z41 (n:Int) (w:World):(Instr.typeAssert (.iface 151 (.agg #[.int .i64 n])) 130 149 true).run Try.prog w=.ok (.tuple #[.agg #[.int .i64 0],.bool false]) w:=by kernel_rfl
theorem z4q (n:Int) (w:World):(Instr.typeAssert (.iface 151 (.agg #[.int .i64 n])) 130 151 true).run Try.prog w=.ok (.tuple #[.agg #[.int .i64 n],.bool true]) w:=by kernel_rfl
theorem z6P (n : Int) (w : World) : (method 293 147 (.agg #[.int .i64 n]) "loop.example/panework/impl.number").run Try.prog w = .ok (144, .agg #[.int .i64 n]) w := by kernel_rfl
theorem z6n (n : Int) (w : World) : (method 293 149 (.agg #[.int .i64 n]) "loop.example/panework/impl.number").run Try.prog w = .ok (145, .agg #[.int .i64 n]) w := by kernel_rfl
theorem z6Q (n : Int) (w : World) : (method 293 151 (.agg #[.int .i64 n]) "loop.example/panework/impl.number").run Try.prog w = .ok (146, .agg #[.int .i64 n]) w := by kernel_rfl
theorem z2G (k n:Int) (w:World) :
  Calls Try.prog 72 #[.agg #[.int .i64 k,.int .i64 n]] w fun e w'=>e=.returned (.bool (z0R k n))∧Below w.heap.size w w':=by
 by_cases h0:k=0
 ·subst h0;have t1:=fun w=>z40 n w;have t2:=fun w=>z4p n w;have t3:=fun w=>z6P n w;have HC:=Hd (z6U n);go_enter Try.func72,Try.ntmps72;go_wp2_with (first | (go_at_call 41;refine (zx _ _ _ _).mono ?_;rintro e w' ⟨rfl,rfl⟩) | go_in)
  go_ret;exact ⟨zr HC.out.symm,by repeat (first | refine zb ?_ _ | exact Below.refl _ _)⟩
 by_cases h1:k=1
 ·subst h1;have t1:=fun w=>z3B n w;have t3:=fun w=>z6n n w;have HC:=Hd (z5E n);go_enter Try.func72,Try.ntmps72;go_wp2_with (first | (go_at_call 41;refine (zx _ _ _ _).mono ?_;rintro e w' ⟨rfl,rfl⟩) | go_in)
  go_ret;exact ⟨zr HC.out.symm,by repeat (first | refine zb ?_ _ | exact Below.refl _ _)⟩
 by_cases h2:k=2
 ·subst h2;have t1:=fun w=>z41 n w;have t2:=fun w=>z4q n w;have t3:=fun w=>z6Q n w;have HC:=Hd (z5F n);go_enter Try.func72,Try.ntmps72;go_wp2_with (first | (go_at_call 41;refine (zx _ _ _ _).mono ?_;rintro e w' ⟨rfl,rfl⟩) | go_in)
  go_ret;exact ⟨zr HC.out.symm,by repeat (first | refine zb ?_ _ | exact Below.refl _ _)⟩
 have e0:(k == 0)=false:=beq_eq_false_iff_ne.2 h0;have e1:(k == 1)=false:=beq_eq_false_iff_ne.2 h1;have e2:(k == 2)=false:=beq_eq_false_iff_ne.2 h2;have HC:=Hd (z4N n h0 h1 h2);clear h0 h1 h2;go_enter Try.func72,Try.ntmps72;go_wp2;go_ret;exact ⟨zr HC.out.symm,by repeat (first | refine zb ?_ _ | exact Below.refl _ _)⟩
theorem z2x (v:Value) (ps:List (Int × Int)) (w:World) {z:Nat} (h:zY w z v ps) :
  Calls Try.prog 44 #[v] w fun e w'=>e=.returned (.bool (z0X ps))∧Below w.heap.size w w':=by
 obtain ⟨a,cap,rfl,hlen⟩:=At.form h;unfold maxLen at hlen;have H:=Hd h;clear h;by_cases h8:(8:Int) < (ps.length:Int)
 ·have HF:Hid (z0X ps=false):=Hid.intro (by have:¬ ps.length≤8:=by omega
                                            simp [z0X,this])
  go_enter Try.func44,Try.ntmps44;go_wp2;go_ret;exact ⟨zr HF.out.symm,Below.refl _ _⟩
 ·have h8':ps.length≤8:=(by omega);go_enter Try.func44,Try.ntmps44;go_wp2_with fail
  go_loopw [4,10] (fun _ i W=>∃ k:Nat,k≤ps.length∧i=.int .i64 k∧Hid (∀ j,j < k→(fun p:Int × Int=>z0R p.1 p.2) (ps.getD j (0,0))=true)∧Hid (Below w.heap.size w W)) (fun _ i _=>ps.length - (intOf i).toNat)
  case atStart=>exact ⟨0,Nat.zero_le _,rfl,fun j hj=>absurd hj (Nat.not_lt_zero _),Below.refl _ _⟩
  case round =>
   obtain ⟨k,hk,rfl,HA,HB⟩:=hrel;by_cases hlt:k < ps.length
   ·obtain ⟨b,off,cap',e',hc1,hc2,hbl,hx0,hx1⟩:=At.get (H.out.kept HB.out) hlt;simp only [Value.slice.injEq,true_and] at e';obtain ⟨rfl,rfl⟩:=e';unfold maxLen at hc2
    cases hv:z0R (ps.getD k (0,0)).1 (ps.getD k (0,0)).2
    ·have HF:Hid (z0X ps=false):=Hd (by rw [z0X,z1s (0,0) (fun p:Int × Int=>z0R p.1 p.2) ps k hlt hv,Bool.and_false]);generalize ps.getD k (0,0)=x at hx0 hx1 hv;go_wp2_with fail
     refine (z2G _ _ _).mono ?_;rw [hv];rintro e w1 ⟨rfl,hb1⟩;have K1:=Hd (ze (zb HB.out _) hb1);clear hb1;go_wp2;go_ret;exact ⟨zr HF.out.symm,K1.out⟩
    ·have HN:=Hd (z1t (p:=fun p:Int × Int=>z0R p.1 p.2) HA.out hv);generalize ps.getD k (0,0)=x at hx0 hx1 hv;go_wp2_with fail
     refine (z2G _ _ _).mono ?_;rw [hv];rintro e w1 ⟨rfl,hb1⟩;have K1:=Hd (ze (zb HB.out _) hb1);clear hb1;go_wp2;go_roundw
     case rel=>exact ⟨k+1,by omega,by go_num,HN,K1⟩
     case measure=>simp [intOf];omega
   ·obtain rfl:k=ps.length:=by omega
    have HF:Hid (z0X ps=true):=Hd (by rw [z0X,z1F (0,0) (fun p:Int × Int=>z0R p.1 p.2) ps HA.out];simp [h8']);go_wp2;go_ret;exact ⟨zr HF.out.symm,HB.out⟩
theorem z3S (u:Value) (r:R) (w:World) {z:Nat} (h:z0E w z u r.cells) :
  Calls Try.prog 73 #[.agg #[u,.bool r.whole]] w fun e w'=>e=.returned (.bool (z0A r))∧Below w.heap.size w w':=by
 obtain ⟨a,cap,rfl,hlen⟩:=At.form h;unfold maxLen at hlen;have H:=Hd h;clear h;by_cases h8:(5:Int) < (r.cells.length:Int)
 ·have HF:Hid (z0A r=false):=Hid.intro (by have:¬ r.cells.length≤5:=by omega
                                           simp [z0A,this])
  go_enter Try.func73,Try.ntmps73;go_wp2;go_ret;exact ⟨zr HF.out.symm,zb (Below.refl _ _) _⟩
 ·have h8':r.cells.length≤5:=(by omega);go_enter Try.func73,Try.ntmps73;go_wp2_with fail
  go_loopw [4,12] (fun _ i W=>∃ k:Nat,k≤r.cells.length∧i=.int .i64 k∧Hid (∀ j,j < k→cB (r.cells.getD j dC)=true)∧Hid (Below w.heap.size w W)) (fun _ i _=>r.cells.length - (intOf i).toNat)
  case atStart=>exact ⟨0,Nat.zero_le _,rfl,fun j hj=>absurd hj (Nat.not_lt_zero _),zb (Below.refl _ _) _⟩
  case round =>
   obtain ⟨k,hk,rfl,HA,HB⟩:=hrel;by_cases hlt:k < r.cells.length
   ·obtain ⟨b,off,cap',e',hc1,hc2,hbl,hx,hs⟩:=At.get (H.out.kept HB.out) hlt;simp only [Value.slice.injEq,true_and] at e';obtain ⟨rfl,rfl⟩:=e';unfold maxLen at hc2;have hs':=Hd hs
    cases hv:cB (r.cells.getD k dC)
    ·have HF:Hid (z0A r=false):=Hd (by rw [z0A,z1s dC cB r.cells k hlt hv,Bool.and_false]);generalize r.cells.getD k dC=x at hx hs' hv;obtain ⟨x0,x1,x2,x3,x4,x5,x6,x7,x8,x9,x10⟩:=hx;clear hs;go_wp2_with fail
     refine (z3r _ _ _ _ _ _ _ _ _ _ _ _ hs'.out).mono ?_;rw [show zz x.s x.c x.r x.a1 x.b1 x.a2 x.b2 x.a3 x.b3 x.a4 x.b4=false from hv];rintro e w1 ⟨rfl,hb1⟩;have K1:=Hd (ze (zb HB.out _) hb1);clear hb1;go_wp2;go_ret;exact ⟨zr HF.out.symm,K1.out⟩
    ·have HN:=Hd (z1t HA.out hv);generalize r.cells.getD k dC=x at hx hs' hv;obtain ⟨x0,x1,x2,x3,x4,x5,x6,x7,x8,x9,x10⟩:=hx;clear hs;go_wp2_with fail
     refine (z3r _ _ _ _ _ _ _ _ _ _ _ _ hs'.out).mono ?_;rw [show zz x.s x.c x.r x.a1 x.b1 x.a2 x.b2 x.a3 x.b3 x.a4 x.b4=true from hv];rintro e w1 ⟨rfl,hb1⟩;have K1:=Hd (ze (zb HB.out _) hb1);clear hb1;go_wp2;go_roundw
     case rel=>exact ⟨k+1,by omega,by go_num,HN,K1⟩
     case measure=>simp [intOf];omega
   ·obtain rfl:k=r.cells.length:=by omega
    have HF:Hid (z0A r=true):=Hd (by rw [z0A,z1F dC cB r.cells HA.out];simp [h8']);go_wp2;go_ret;exact ⟨zr HF.out.symm,HB.out⟩
theorem z5h (v:Value) (rs:List R) (w:World) {z:Nat} (h:zD w z v rs) :
  Calls Try.prog 45 #[v] w fun e w'=>e=.returned (.bool (rs.all z0A))∧Below w.heap.size w w':=by
 obtain ⟨a,cap,rfl,hlen⟩:=At.form h;unfold maxLen at hlen;have H:=Hd h;clear h;go_enter Try.func45,Try.ntmps45;go_wp2_with fail
 go_loopw [4,7] (fun _ i W=>∃ k:Nat,k≤rs.length∧i=.int .i64 k∧Hid (∀ j,j < k→z0A (rs.getD j dR)=true)∧Hid (Below w.heap.size w W)) (fun _ i _=>rs.length - (intOf i).toNat)
 case atStart=>exact ⟨0,Nat.zero_le _,rfl,fun j hj=>absurd hj (Nat.not_lt_zero _),Below.refl _ _⟩
 case round =>
  obtain ⟨k,hk,rfl,HA,HB⟩:=hrel;by_cases hlt:k < rs.length
  ·obtain ⟨b,off,cap',e',hc1,hc2,hbl,u,hx0,hx1,hx⟩:=At.get (H.out.kept HB.out) hlt;simp only [Value.slice.injEq,true_and] at e';obtain ⟨rfl,rfl⟩:=e';unfold maxLen at hc2;obtain ⟨ua,ucap,rfl,_⟩:=At.form hx;have HX:=Hd hx;clear hx
   cases hv:z0A (rs.getD k dR)
   ·have HF:Hid (rs.all z0A=false):=Hd (z1s dR z0A rs k hlt hv);generalize rs.getD k dR=x at hx0 hx1 hv HX;go_wp2_with fail
    refine (z3S _ x _ (HX.out.kept (zb (Below.refl _ _) _))).mono ?_;rw [hv];rintro e w1 ⟨rfl,hb1⟩;have K1:=Hd (ze (zb HB.out _) hb1);clear hb1;go_wp2;go_ret;exact ⟨zr HF.out.symm,K1.out⟩
   ·have HN:=Hd (z1t HA.out hv);generalize rs.getD k dR=x at hx0 hx1 hv HX;go_wp2_with fail
    refine (z3S _ x _ (HX.out.kept (zb (Below.refl _ _) _))).mono ?_;rw [hv];rintro e w1 ⟨rfl,hb1⟩;have K1:=Hd (ze (zb HB.out _) hb1);clear hb1;go_wp2;go_roundw
    case rel=>exact ⟨k+1,by omega,by go_num,HN,K1⟩
    case measure=>simp [intOf];omega
  ·obtain rfl:k=rs.length:=by omega
   have HF:Hid (rs.all z0A=true):=Hd (z1F dR z0A rs HA.out);go_wp2;go_ret;exact ⟨zr HF.out.symm,HB.out⟩
theorem z1N (vc:Value) (ar:Option Addr) (n cr:Nat) (hd ft gp:Int) (a:Option Addr) (m c:Nat) (hvc:vc=.slice a m c) (hn:n≤4611686018427387903) (w:World) :
  Calls Try.prog 43 #[.agg #[vc,.int .i64 hd,.int .i64 ft,.slice ar n cr,.int .i64 gp]] w fun e w'=>e=.returned (.bool (z0K n hd ft))∧Below w.heap.size w w':=by
 subst hvc
 cases h1:inB hd 0 n
 ·have HF:Hid (z0K n hd ft=false):=Hd (by rw [z0K,h1];rfl);go_enter Try.func43,Try.ntmps43;go_wp2_with (go_at_call 41;refine (zx _ _ _ _).mono ?_;rintro e w' ⟨rfl,rfl⟩)
  go_ret;exact ⟨zr HF.out.symm,zb (Below.refl _ _) _⟩
 ·have h1':0≤hd∧hd≤n:=of_decide_eq_true h1;obtain ⟨g1,g2⟩:=h1';have HF:Hid (z0K n hd ft=inB ft 0 (n - hd)):=Hd (by rw [z0K,h1];rfl);go_enter Try.func43,Try.ntmps43;go_wp2_with (go_at_call 41;refine (zx _ _ _ _).mono ?_;rintro e w' ⟨rfl,rfl⟩)
  go_ret;exact ⟨zr HF.out.symm,zb (Below.refl _ _) _⟩
theorem z1x (ac ar:Option Addr) (cc cr:Nat) (t:T) (w:World) {z:Nat} (hc:zY w z (.slice ac t.cols.length cc) t.cols) (hr:zD w z (.slice ar t.rows.length cr) t.rows) :
  Calls Try.prog 18 #[.agg #[.slice ac t.cols.length cc,.int .i64 t.head,.int .i64 t.foot,.slice ar t.rows.length cr,.int .i64 t.gap]] w fun e w'=>e=.returned (.bool (zI t))∧Below w.heap.size w w':=by
 have HC:=Hd hc;have HR:=Hd hr;clear hc hr;have K0:=Hd (zb (Below.refl w.heap.size w) (.cells #[.slice ac t.cols.length cc,.int .i64 t.head,.int .i64 t.foot,.slice ar t.rows.length cr,.int .i64 t.gap] 26))
 cases h0:inB t.rows.length 1 8
 ·have HF:Hid (zI t=false):=Hd (by simp [zI,h0]);go_enter Try.func18,Try.ntmps18;go_wp2_with (go_at_call 41;refine (zx _ _ _ _).mono ?_;rintro e w' ⟨rfl,rfl⟩)
  go_ret;exact ⟨zr HF.out.symm,zb (Below.refl _ _) _⟩
 cases h1:z0K t.rows.length t.head t.foot
 ·have HF:Hid (zI t=false):=Hd (by simp [zI,h0,h1]);have hN:0≤((t.rows.length:Nat):Int) - 1∧((t.rows.length:Nat):Int)≤8:=(by have:=of_decide_eq_true h0;omega);go_enter Try.func18,Try.ntmps18;go_wp2_with (go_at_call 41;refine (zx _ _ _ _).mono ?_;rintro e w' ⟨rfl,rfl⟩)
  refine (z1N _ ar t.rows.length cr t.head t.foot t.gap ac t.cols.length cc rfl (by omega) _).mono ?_;rw [h1];rintro e w1 ⟨rfl,hb1⟩;obtain ⟨m0,m1,m2,m3,m4⟩:=z0z ((hb1.block w.heap.size (by simp)).trans (z0N _ _));have K1:=Hd (ze K0.out hb1);have L1:=Hd hb1;clear hb1;go_wp2_with (go_at_call 41;refine (zx _ _ _ _).mono ?_;rintro e w' ⟨rfl,rfl⟩)
  go_ret;exact ⟨zr HF.out.symm,K1.out⟩
 cases h2:inB t.gap 0 3
 ·have HF:Hid (zI t=false):=Hd (by simp [zI,h0,h1,h2]);have hN:0≤((t.rows.length:Nat):Int) - 1∧((t.rows.length:Nat):Int)≤8:=(by have:=of_decide_eq_true h0;omega);go_enter Try.func18,Try.ntmps18;go_wp2_with (go_at_call 41;refine (zx _ _ _ _).mono ?_;rintro e w' ⟨rfl,rfl⟩)
  refine (z1N _ ar t.rows.length cr t.head t.foot t.gap ac t.cols.length cc rfl (by omega) _).mono ?_;rw [h1];rintro e w1 ⟨rfl,hb1⟩;obtain ⟨m0,m1,m2,m3,m4⟩:=z0z ((hb1.block w.heap.size (by simp)).trans (z0N _ _));have K1:=Hd (ze K0.out hb1);have L1:=Hd hb1;clear hb1;go_wp2_with (go_at_call 41;refine (zx _ _ _ _).mono ?_;rintro e w' ⟨rfl,rfl⟩)
  go_ret;exact ⟨zr HF.out.symm,K1.out⟩
 cases h3:z0X t.cols
 ·have HF:Hid (zI t=false):=Hd (by simp [zI,h0,h1,h2,h3]);have hN:0≤((t.rows.length:Nat):Int) - 1∧((t.rows.length:Nat):Int)≤8:=(by have:=of_decide_eq_true h0;omega);go_enter Try.func18,Try.ntmps18;go_wp2_with (go_at_call 41;refine (zx _ _ _ _).mono ?_;rintro e w' ⟨rfl,rfl⟩)
  refine (z1N _ ar t.rows.length cr t.head t.foot t.gap ac t.cols.length cc rfl (by omega) _).mono ?_;rw [h1];rintro e w1 ⟨rfl,hb1⟩;obtain ⟨m0,m1,m2,m3,m4⟩:=z0z ((hb1.block w.heap.size (by simp)).trans (z0N _ _));have K1:=Hd (ze K0.out hb1);have L1:=Hd hb1;clear hb1;go_wp2_with (go_at_call 41;refine (zx _ _ _ _).mono ?_;rintro e w' ⟨rfl,rfl⟩)
  refine (z2x _ t.cols _ (HC.out.kept K1.out)).mono ?_;rw [h3];rintro e w2 ⟨rfl,hb2⟩;obtain ⟨n0,n1,n2,n3,n4⟩:=z0z (((ze L1.out hb2).block w.heap.size (by simp)).trans (z0N _ _));have K2:=Hd (ze K1.out hb2);clear hb2;go_wp2;go_ret;exact ⟨zr HF.out.symm,K2.out⟩
 have HF:Hid (zI t=t.rows.all z0A):=Hd (by simp [zI,h0,h1,h2,h3]);have hN:0≤((t.rows.length:Nat):Int) - 1∧((t.rows.length:Nat):Int)≤8:=(by have:=of_decide_eq_true h0;omega);go_enter Try.func18,Try.ntmps18;go_wp2_with (go_at_call 41;refine (zx _ _ _ _).mono ?_;rintro e w' ⟨rfl,rfl⟩)
 refine (z1N _ ar t.rows.length cr t.head t.foot t.gap ac t.cols.length cc rfl (by omega) _).mono ?_;rw [h1];rintro e w1 ⟨rfl,hb1⟩;obtain ⟨m0,m1,m2,m3,m4⟩:=z0z ((hb1.block w.heap.size (by simp)).trans (z0N _ _));have K1:=Hd (ze K0.out hb1);have L1:=Hd hb1;clear hb1;go_wp2_with (go_at_call 41;refine (zx _ _ _ _).mono ?_;rintro e w' ⟨rfl,rfl⟩)
 refine (z2x _ t.cols _ (HC.out.kept K1.out)).mono ?_;rw [h3];rintro e w2 ⟨rfl,hb2⟩;obtain ⟨n0,n1,n2,n3,n4⟩:=z0z (((ze L1.out hb2).block w.heap.size (by simp)).trans (z0N _ _));have K2:=Hd (ze K1.out hb2);clear hb2;go_wp2_with fail
 refine (z5h _ t.rows _ (HR.out.kept K2.out)).mono ?_;rintro e w3 ⟨rfl,hb3⟩;have K3:=Hd (ze K2.out hb3);clear hb3;go_wp2;go_ret;exact ⟨zr HF.out.symm,K3.out⟩
theorem z4F (ac ar:Option Addr) (cc cr:Nat) (t:T) (q:Int) (w:World) {z:Nat} (hc:zY w z (.slice ac t.cols.length cc) t.cols) (hr:zD w z (.slice ar t.rows.length cr) t.rows) :
  Calls Try.prog 106 #[.agg #[.slice ac t.cols.length cc,.int .i64 t.head,.int .i64 t.foot,.slice ar t.rows.length cr,.int .i64 t.gap],.int .i64 q] w fun e w'=>e=.returned (.int .i64 (z0S t q))∧Below w.heap.size w w':=by
 have K0:=Hd (zb (Below.refl w.heap.size w) (.cells #[.slice ac t.cols.length cc,.int .i64 t.head,.int .i64 t.foot,.slice ar t.rows.length cr,.int .i64 t.gap] 26));have HC:=Hd (hc.kept K0.out);have HR:=Hd (hr.kept K0.out);clear hc hr
 cases hv:zI t
 ·have HF:Hid (z0S t q=-1):=Hd (by rw [z0S,if_neg (by rw [hv];simp)]);go_enter Try.func106,Try.ntmps106;go_wp2_with fail
  refine (z1x ac ar cc cr t _ HC.out HR.out).mono ?_;rw [hv];rintro e w1 ⟨rfl,hb1⟩;have K1:=Hd (ze K0.out hb1);clear hb1;go_wp2;go_ret;exact ⟨z3c HF.out.symm,K1.out⟩
 obtain ⟨⟨b1,b2⟩,⟨b3,b4⟩,b5,b6⟩:=z2d hv
 cases hi:inB q 0 (t.rows.length - 1)
 ·have HF:Hid (z0S t q=-1):=Hd (by rw [z0S,if_neg (by rw [hi];simp)]);go_enter Try.func106,Try.ntmps106;go_wp2_with fail
  refine (z1x ac ar cc cr t _ HC.out HR.out).mono ?_;rw [hv];rintro e w1 ⟨rfl,hb1⟩;obtain ⟨m0,m1,m2,m3,m4⟩:=z0z ((hb1.block w.heap.size (by simp)).trans (z0N _ _));have K1:=Hd (ze K0.out hb1);clear hb1;go_wp2_with (go_at_call 41;refine (zx _ _ _ _).mono ?_;rintro e w' ⟨rfl,rfl⟩)
  go_ret;exact ⟨z3c HF.out.symm,K1.out⟩
 have HP:Hid (z0S t q=if q < t.head then 0 else if t.rows.length - t.foot≤q then 2 else 1):=Hd (by rw [z0S,if_pos ⟨hv,hi⟩]);by_cases h1:q < t.head
 ·have HF:Hid (z0S t q=0):=Hd (by rw [HP.out,if_pos h1]);go_enter Try.func106,Try.ntmps106;go_wp2_with fail
  refine (z1x ac ar cc cr t _ HC.out HR.out).mono ?_;rw [hv];rintro e w1 ⟨rfl,hb1⟩;obtain ⟨m0,m1,m2,m3,m4⟩:=z0z ((hb1.block w.heap.size (by simp)).trans (z0N _ _));have K1:=Hd (ze K0.out hb1);clear hb1;go_wp2_with (go_at_call 41;refine (zx _ _ _ _).mono ?_;rintro e w' ⟨rfl,rfl⟩)
  go_ret;exact ⟨z3c HF.out.symm,K1.out⟩
 by_cases h2:(t.rows.length:Int) - t.foot≤q
 ·have HF:Hid (z0S t q=2):=Hd (by rw [HP.out,if_neg h1,if_pos h2]);go_enter Try.func106,Try.ntmps106;go_wp2_with fail
  refine (z1x ac ar cc cr t _ HC.out HR.out).mono ?_;rw [hv];rintro e w1 ⟨rfl,hb1⟩;obtain ⟨m0,m1,m2,m3,m4⟩:=z0z ((hb1.block w.heap.size (by simp)).trans (z0N _ _));have K1:=Hd (ze K0.out hb1);clear hb1;go_wp2_with (go_at_call 41;refine (zx _ _ _ _).mono ?_;rintro e w' ⟨rfl,rfl⟩)
  go_ret;exact ⟨z3c HF.out.symm,K1.out⟩
 ·have HF:Hid (z0S t q=1):=Hd (by rw [HP.out,if_neg h1,if_neg h2]);go_enter Try.func106,Try.ntmps106;go_wp2_with fail
  refine (z1x ac ar cc cr t _ HC.out HR.out).mono ?_;rw [hv];rintro e w1 ⟨rfl,hb1⟩;obtain ⟨m0,m1,m2,m3,m4⟩:=z0z ((hb1.block w.heap.size (by simp)).trans (z0N _ _));have K1:=Hd (ze K0.out hb1);clear hb1;go_wp2_with (go_at_call 41;refine (zx _ _ _ _).mono ?_;rintro e w' ⟨rfl,rfl⟩)
  go_ret;exact ⟨z3c HF.out.symm,K1.out⟩
theorem z6o {R C:Int} {x:GC} (hf:z11 R C x=true) (hR:R≤8) (hC:C≤94) (w:World) (B:Nat) (L:List (Nat × Nat)) (hT:zA w B L) :
  Calls Try.prog 95 #[.map (some B),.agg #[.int .i64 x.row,.int .i64 x.col,.int .i64 x.rows,.int .i64 x.cols,.int .i64 x.ins]] w fun e w'=>e=.returned (.bool (z1Y L x.row.toNat x.col.toNat x.rows.toNat x.cols.toNat))∧Below w.heap.size w w':=by
 obtain ⟨e1,e2,e3,e4,h1,h2,h3,h4⟩:=z1W hf;have h:=z4A x.row.toNat x.col.toNat x.rows.toNat x.cols.toNat x.ins (by omega) (by omega) w B L hT;unfold gcV at h;rw [← e1,← e2,← e3,← e4] at h;exact h
theorem z7a {R C:Int} {x:GC} (hf:z11 R C x=true) (hR:R≤8) (hC:C≤94) (w:World) (B:Nat) (L:List (Nat × Nat)) (hT:zA w B L) (hL:L.length≤40 * 752) :
  Calls Try.prog 96 #[.map (some B),.agg #[.int .i64 x.row,.int .i64 x.col,.int .i64 x.rows,.int .i64 x.cols,.int .i64 x.ins]] w fun e w'=>(∃ v,e=.returned v)∧zA w' B (L ++ (z1p x).map (·.1))∧w.grownBy w' (some B):=by
 have hl:=z39 hf hR hC;obtain ⟨e1,e2,e3,e4,h1,h2,h3,h4⟩:=z1W hf;have h:=z67 x.row.toNat x.col.toNat x.rows.toNat x.cols.toNat x.ins (by omega) (by omega) w B L hT (by show _+(z1p x).length < _;omega);unfold gcV at h;rw [← e1,← e2,← e3,← e4] at h;exact h
theorem z4G {t:T} (h:zI t=true) {r:Nat} (hr:r < t.rows.length):(z0S t r=0∧zt t r=t.head)∨(z0S t r=1∧zt t r=t.rows.length - t.foot)∨(z0S t r=2∧zt t r=t.rows.length):=by
 have e:z0S t r=if (r:Int) < t.head then 0 else if (t.rows.length:Int) - t.foot≤r then 2 else 1:=by
  unfold z0S;rw [if_pos ⟨h,z2l (by omega) (by omega)⟩]
 unfold zt;rw [e]
 split
 ·exact .inl ⟨rfl,rfl⟩
 ·split
  ·exact .inr (.inr ⟨rfl,rfl⟩)
  ·exact .inr (.inl ⟨rfl,rfl⟩)
theorem z4H (ac ar:Option Addr) (cc cr:Nat) (t:T) (htk:zI t=true) (r:Nat) (hrl:r < t.rows.length) (w:World) {z:Nat} (hc:zY w z (.slice ac t.cols.length cc) t.cols) (hr:zD w z (.slice ar t.rows.length cr) t.rows) :
  Calls Try.prog 94 #[.agg #[.slice ac t.cols.length cc,.int .i64 t.head,.int .i64 t.foot,.slice ar t.rows.length cr,.int .i64 t.gap],.int .i64 (r:Int)] w fun e w'=>e=.returned (.int .i64 (zt t r))∧Below w.heap.size w w':=by
 have hb:=z2d htk;have K0:=zb (Below.refl w.heap.size w) (.cells #[.slice ac t.cols.length cc,.int .i64 t.head,.int .i64 t.foot,.slice ar t.rows.length cr,.int .i64 t.gap] 26);have X0:=zf w (.cells #[.slice ac t.cols.length cc,.int .i64 t.head,.int .i64 t.foot,.slice ar t.rows.length cr,.int .i64 t.gap] 26);have KP:=Hd (z4F ac ar cc cr t (r:Int) _ (hc.kept K0) (hr.kept K0))
 rcases z4G htk hrl with ⟨h1,h2⟩ | ⟨h1,h2⟩ | ⟨h1,h2⟩
 all_goals
  rw [h1] at KP;have HE:=Hd h2;have HX:=Hd X0;have HK:=Hd K0;clear h1 h2 hc hr;go_enter Try.func94,Try.ntmps94;go_wp2_with fail
  refine KP.out.mono ?_;rintro e w1 ⟨rfl,hb1⟩;obtain ⟨⟨t0,t1,t2,t3,t4⟩,_⟩:=z0M (zU HX.out hb1);have HB:=Hd (ze HK.out hb1);clear hb1 KP HX HK X0 K0;go_wp2;go_ret;exact ⟨z2g HE.out.symm,HB.out⟩
theorem z0h.fits {n:Nat} {a:GC} (h:z0h n a):z11 n 94 a=true:=by
 unfold z0h at h;simp only [z11,inB,Bool.and_eq_true,decide_eq_true_eq];omega
theorem z2H {W:World} {mb b:Nat} {L:List (Nat × Nat)} {cur:Array Value} {e:TypeId} (h:zA W mb L) (hb:W.heap[b]?=some (.cells cur e)):mb ≠ b:=fun e1=>by
 obtain ⟨o,ho,hc⟩:=h.notCells;rw [e1,hb] at ho
 cases ho
 cases hc
theorem z4X {W:World} {mb base:Nat} {L:List (Nat × Nat)} {e:TypeId} {sz:Nat} {v:Value} {m:Nat} {xs:List Value} (h:zA W mb L) (ho:W.ownsRow base e sz v m xs):some mb ≠ v.ownBlock:=fun e1=>by
 rcases ho.2 with ⟨rfl,_⟩ | ⟨g,cap,cur,rfl,_,hc,_⟩
 ·simp [Value.ownBlock] at e1
 ·simp [Value.ownBlock] at e1;exact z2H h hc e1
theorem SG.take {w W W':World} {gb mb:Nat} {ac ar:Option Addr} {cc cr:Nat} {t:T} {C:Int} {vg:Value} {gs:List GC} {L:List (Nat × Nat)} (h:SG w gb ac ar cc cr t C vg gs W) (hT:zA W mb L) (hm:w.heap.size≤mb) (k:W.grownBy W' (some mb)):SG w gb ac ar cc cr t C vg gs W' :=
 ⟨h.bel.grown k h.bel.size (fun j e=>by cases e;exact hm),zB h.tbl k (fun e=>by injection e with e;exact z2H hT h.tbl e.symm),zB h.res k (fun e=>by injection e with e;exact z2H hT h.res e.symm),zB h.grd k (fun e=>by injection e with e;exact z2H hT h.grd e.symm),
  z00 (n:=w.heap.size+2) (b1:=none) (b2:=some mb) h.own (Off.grown k) (Nat.le_refl _) (by cases vg.ownBlock <;> simp) (by
   cases hb:vg.ownBlock with
   | none=>exact .inl rfl
   | some b=>exact .inr (fun e=>z4X hT h.own (by rw [hb];exact e.symm)))⟩
end Go.Proofs.Ytggmjiddadjilam
