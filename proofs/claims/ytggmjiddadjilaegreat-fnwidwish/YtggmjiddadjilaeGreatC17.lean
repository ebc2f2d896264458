/-
  PROVED HERE: as AnyInv's law, and besides: what an operation hangs on has been carried out ahead of it. Also: 7 more texts of the same proof.
-/
import Derived.Test.YtggmjiddadjilaeGreatC13
import Derived.Test.YtggmjiddadjilaeGreatC12
import Derived.Test.YtggmjiddadjilaeGreatC16
namespace Go.Proofs.YtggmjiddadjilaeGreat
open Go.RowKit
def edgeB (ops:Array Oper) (j i:Nat):Bool:=((ops[j]?).map fun o=>o.after.toList.any fun e=>Region.binds .any e && e.on == i).getD false
def Closed (ops:Array Oper) (L:Nat→Bool):Prop:=∀ j i,edgeB ops j i=true→L i=false→L j=false
theorem Closed.next {ops:Array Oper} {L:Nat→Bool} (h:Closed ops L) {k:Nat} {o:Oper} (ho:ops[k]?=some o) (ha:∀ e ∈ o.after,Region.binds .any e=true→L e.on=true):Closed ops (upd L k):=by
 intro j i he hi
 have hik:i ≠ k:=fun e=>by subst e;rw [upd_self] at hi;cases hi
 have hi':L i=false:=by simpa [upd,hik] using hi
 have hj:=h j i he hi'
 have hjk:j ≠ k:=by
  intro e
  subst e
  unfold edgeB at he
  rw [ho] at he
  simp only [Option.map_some,Option.getD_some,List.any_eq_true,Bool.and_eq_true,beq_iff_eq] at he
  obtain ⟨e,he1,he2,he3⟩:=he
  have:=ha e (by simpa using he1) he2
  rw [he3,hi'] at this
  cases this
 simpa [upd,hjk] using hj
theorem wp_region_inv2 {P:Program} {ops:Array Oper} {Q:Exit→Act→World→Prop} (J:(Nat→Bool)→Act→World→Prop) {id:Nat} {a:Act} {w:World} (hm:P.follows .mixedOrders=true) (hord:aheadB ops=true)
  (hs:∀ (L:Nat→Bool) (a:Act) (w:World) (i:Nat) (o:Oper),J L a w→Closed ops L→ops[i]?=some o→L i=false→(∀ e ∈ o.after,Region.binds .any e=true→L e.on=true) →
   ∀ K:Act→World→Prop,(∀ a' w',J (upd L i) a' w'→K a' w')→if Region.wanted o (yielded ops a.tmps)=true then o.wp P a w K Q else K (a.put o.dst undef) w)
  (hd:∀ (L:Nat→Bool) (a:Act) (w:World),J L a w→(∀ i,i < ops.size→L i=true)→Q .normal a w)
  (h0:J (fun _=>false) a w.drew):(Code.region id ops true).wp P Q a w :=
 wp_region_inv (fun L a w=>J L a w∧Closed ops L) hm hord
  (fun L a w i o hJ ho hi ha K hK=>hs L a w i o hJ.1 hJ.2 ho hi ha K (fun a' w' hJ'=>hK a' w' ⟨hJ',hJ.2.next ho ha⟩))
  (fun L a w hJ hall=>hd L a w hJ.1 hall) ⟨h0,fun _ _ _ _=>rfl⟩
end Go.Proofs.YtggmjiddadjilaeGreat
namespace Go.Proofs.YtggmjiddadjilaeGreat
end Go.Proofs.YtggmjiddadjilaeGreat
namespace Go.Proofs.YtggmjiddadjilaeGreat
open Go.RowKit
def PB (n0:Nat) (w:World) (t:TypeId) (m:Nat) (P:Array Value→Prop) (u:Value):Prop:=∃ g arr,u=.slice (some ⟨g,0,none⟩) m m∧Hp n0 w g (.cells arr t)∧P arr
def PP (n0:Nat) (w:World) (t:TypeId) (P:Array Value→Nat→Prop) (u:Value):Prop:=∃ g k arr,u=.pointer (some ⟨g,k,none⟩)∧Hp n0 w g (.cells arr t)∧P arr k
theorem PB.bk {n0 m r:Nat} {w w':World} {t:TypeId} {P:Array Value→Prop} {u:Value} (h:PB n0 w t m P u) (hr:r < n0) (k:Bk r w w'):PB n0 w' t m P u:=by
 obtain ⟨g,arr,e,hg,hp⟩:=h;exact ⟨g,arr,e,hg.bk hr k,hp⟩
theorem PP.bk {n0 r:Nat} {w w':World} {t:TypeId} {P:Array Value→Nat→Prop} {u:Value} (h:PP n0 w t P u) (hr:r < n0) (k:Bk r w w'):PP n0 w' t P u:=by
 obtain ⟨g,i,arr,e,hg,hp⟩:=h;exact ⟨g,i,arr,e,hg.bk hr k,hp⟩
theorem row_bk {w w':World} {base r:Nat} {e:TypeId} {sz:Nat} {v:Value} {m:Nat} {xs:List Value} (h:w.ownsRow base e sz v m xs) (k:Bk r w w') (hr:r < base):w'.ownsRow base e sz v m xs :=
 ⟨h.1,h.2.elim Or.inl (fun ⟨g,cap,cur,hv,hg,hc,q⟩=>Or.inr ⟨g,cap,cur,hv,hg,(k.block g (bL hc) (by omega)).trans hc,q⟩)⟩
theorem Bk.grown {r:Nat} {a b c:World} {u:Option Nat} (h:Bk r a b) (k:b.grownBy c u) (hu:∀ i,u=some i→a.heap.size≤i):Bk r a c :=
 ⟨k.os.trans h.os,k.tape.trans h.tape,k.output.trans h.output,Nat.le_trans h.size k.size,fun i hi hr=>(k.block i (Nat.lt_of_lt_of_le hi h.size) (fun e=>by have:=hu i e.symm;omega)).trans (h.block i hi hr)⟩
theorem Rd.grown {r B:Nat} {b c:World} {u:Option Nat} (h:Rd b r B) (k:b.grownBy c u) (hu:∀ i,u=some i→r < i):Rd c r B :=
 h.keep (fun i hi=>k.block i (Nat.lt_of_le_of_lt hi h.lt) (fun e=>by have:=hu i e.symm;omega))
theorem blk_grown {b c:World} {u:Option Nat} {g:Nat} {o:Obj} (h:b.heap[g]?=some o) (k:b.grownBy c u) (hu:some g ≠ u):c.heap[g]?=some o :=
 (k.block g (bL h) hu).trans h
theorem ne_of_own {v:Value} {g:Nat} (h:v.ownBlock=none∨v.ownBlock ≠ some g):some g ≠ v.ownBlock:=fun e=>by
 rcases h with h | h
 ·rw [h] at e;cases e
 ·exact h e.symm
theorem row_set {w:World} {base:Nat} {e e':TypeId} {sz:Nat} {v:Value} {m:Nat} {xs:List Value} {g p:Nat} {cur:Array Value} (h:w.ownsRow base e sz v m xs) (h':w.heap[g]?=some (.cells cur e')) (he:e ≠ e') (u:Value):(w.setCell ⟨g,p,none⟩ u).ownsRow base e sz v m xs :=
 row_off (n:=base) (b1:=some g) (b2:=none) h (Off.set w ⟨g,p,none⟩ rfl u) (Nat.le_refl _) (row_ne_block h h' he) (by cases v.ownBlock <;> simp)
def Stays (n0 tb:Nat) (u:Value) (F:World→Prop):Prop:=∀ w w',F w→Off n0 (some tb) u.ownBlock w w'→F w'
def Cx (x:C):Prop:=x.s.size≤61∧(x.r≤3∨x.r=5)
theorem pair4 (a b k:Int) (h0:0≤k) (h1:k < 4):∃ x y:Int,(#[.int .i64 0,.int .i64 0,.int .i64 0,.int .i64 0,.int .i64 1,.int .i64 a,.int .i64 2,.int .i64 b]:Array Value)[k.toNat * 2]?=some (.int .i64 x)∧(#[.int .i64 0,.int .i64 0,.int .i64 0,.int .i64 0,.int .i64 1,.int .i64 a,.int .i64 2,.int .i64 b]:Array Value)[k.toNat * 2+1]?=some (.int .i64 y):=by
 rcases (by omega:k=0∨k=1∨k=2∨k=3) with rfl | rfl | rfl | rfl
 ·exact ⟨0,0,rfl,rfl⟩
 ·exact ⟨0,0,rfl,rfl⟩
 ·exact ⟨1,a,rfl,rfl⟩
 ·exact ⟨2,b,rfl,rfl⟩
theorem infoCol:(Tryz.prog.info? 45).map (fun i=>(i.zero,i.size,i.bytes))=some (some (Value.agg #[.int .i64 0,.int .i64 0]),2,16):=by kernel_rfl
theorem infoCell:(Tryz.prog.info? 70).map (fun i=>(i.zero,i.size,i.bytes))=some (some (Value.agg #[.string ⟨#[]⟩,.int .i64 0,.int .i64 0,.int .i64 0,.int .i64 0,.int .i64 0,.int .i64 0,.int .i64 0,.int .i64 0,.int .i64 0,.int .i64 0]),11,96):=by kernel_rfl
theorem infoRow:(Tryz.prog.info? 65).map (fun i=>(i.zero,i.size,i.bytes))=some (some (Value.agg #[.slice none 0 0,.bool false]),2,32):=by kernel_rfl
def colRCnt (L:Nat→Bool):Nat:=(if L 5=true then 1 else 0)+(if L 9=true then 1 else 0)+(if L 15=true then 1 else 0)
theorem colRCnt_le (L:Nat→Bool):colRCnt L≤3:=by unfold colRCnt;(repeat (first | omega | split))
theorem colRCnt_5 {L:Nat→Bool} (h:L 5=false):colRCnt (upd L 5)=colRCnt L+1:=by simp [colRCnt,upd,h];omega
theorem colRCnt_9 {L:Nat→Bool} (h:L 9=false):colRCnt (upd L 9)=colRCnt L+1:=by simp [colRCnt,upd,h];omega
theorem colRCnt_15 {L:Nat→Bool} (h:L 15=false):colRCnt (upd L 15)=colRCnt L+1:=by simp [colRCnt,upd,h]
theorem colRCnt_same {L:Nat→Bool} {i:Nat} (h:i ≠ 5∧i ≠ 9∧i ≠ 15):colRCnt (upd L i)=colRCnt L:=by
 have k5:(5:Nat) ≠ i:=fun e=>(h.1) e.symm
 have k9:(9:Nat) ≠ i:=fun e=>(h.2.1) e.symm
 have k15:(15:Nat) ≠ i:=fun e=>(h.2.2) e.symm
 simp [colRCnt,upd,k5,k9,k15]
structure colRJ (r B n0:Nat) (w0:World) (F:World→Prop) (base:Nat) (U:Value) (nn:Nat) (xs:List Value) (tb:Nat) (tc:Array Value)  (L:Nat→Bool) (w:World) (v18 v19 v20 v21 v22 v23 v24 v25 v26 v27 v28 v29 v30 v31 v32 v33 v34 v35 v36 v37 v38:Value):Prop where
 f0:L 0=true→v18=.pointer (some ⟨tb,0,none⟩)
 f1:L 1=true→v19=U
 f2:L 2=true→v20=.agg #[.int .i64 0,.int .i64 0]
 f3:L 3=true→v21=.agg #[.int .i64 0,.int .i64 0]
 f4:L 4=true→v22=.pointer (some ⟨r,0,none⟩)
 f5:L 5=true→PI 0 29 v23
 f6:L 6=true→∃ k:Int,v24=.agg #[.int .i64 1,.int .i64 k]
 f7:L 7=true→L 19=false→PB n0 w 3 4 (fun arr=>arr=#[.int .i64 10,.int .i64 25,.int .i64 50,.int .i64 100]) v25
 f8:L 8=true→v26=.pointer (some ⟨r,0,none⟩)
 f9:L 9=true→PI 0 3 v27
 f10:L 10=true→L 19=false→PP n0 w 3 (fun arr k=>∃ v:Int,arr[k]?=some (.int .i64 v)) v28
 f11:L 11=true→∃ v:Int,v29=.int .i64 v
 f12:L 12=true→∃ v:Int,v30=.agg #[.int .i64 2,.int .i64 v]
 f13:L 13=true→L 19=false→PB n0 w 45 4 (fun arr=>∃ a b:Int,arr=#[.int .i64 0,.int .i64 0,.int .i64 0,.int .i64 0,.int .i64 1,.int .i64 a,.int .i64 2,.int .i64 b]) v31
 f14:L 14=true→v32=.pointer (some ⟨r,0,none⟩)
 f15:L 15=true→PI 0 3 v33
 f16:L 16=true→L 19=false→PP n0 w 45 (fun arr k=>∃ x y:Int,arr[k]?=some (.int .i64 x)∧arr[k+1]?=some (.int .i64 y)) v34
 f17:L 17=true→∃ x y:Int,v35=.agg #[.int .i64 x,.int .i64 y]
 f18:L 18=true→L 19=false→PB n0 w 45 1 (fun arr=>∃ x y:Int,arr=#[.int .i64 x,.int .i64 y]) v36
 f20:L 20=true→v38=.pointer (some ⟨tb,0,none⟩)
 rd:Rd w r (B+colRCnt L)
 bk:Bk r w0 w
 fr:F w
 own:L 19=false→w.ownsRow base 45 2 U nn xs
 ownA:L 19=true→∃ nw,(∃ p,nw=colVs p)∧w.ownsRow base 45 2 v37 (nn+1) (xs ++ nw)
 tb0:L 21=false→w.heap[tb]?=some (.cells tc 26)
 tb1:L 21=true→w.heap[tb]?=some (.cells (tc.setIfInBounds (0) v37) 26)
def colR (r B n0:Nat) (w0:World) (F:World→Prop) (base:Nat) (U:Value) (nn:Nat) (xs:List Value) (tb:Nat) (tc:Array Value)  (mk:Value→Value→Value→Value→Value→Value→Value→Value→Value→Value→Value→Value→Value→Value→Value→Value→Value→Value→Value→Value→Value→Act) (L:Nat→Bool) (a:Act) (w:World):Prop:=∃ v18 v19 v20 v21 v22 v23 v24 v25 v26 v27 v28 v29 v30 v31 v32 v33 v34 v35 v36 v37 v38:Value,a=mk v18 v19 v20 v21 v22 v23 v24 v25 v26 v27 v28 v29 v30 v31 v32 v33 v34 v35 v36 v37 v38∧colRJ r B n0 w0 F base U nn xs tb tc L w v18 v19 v20 v21 v22 v23 v24 v25 v26 v27 v28 v29 v30 v31 v32 v33 v34 v35 v36 v37 v38
def rowRCnt (L:Nat→Bool):Nat:=(if L 3=true then 50 else 0)
theorem rowRCnt_le (L:Nat→Bool):rowRCnt L≤50:=by unfold rowRCnt;(repeat (first | omega | split))
theorem rowRCnt_3 {L:Nat→Bool} (h:L 3=false):rowRCnt (upd L 3)=rowRCnt L+50:=by simp [rowRCnt,upd,h]
theorem rowRCnt_same {L:Nat→Bool} {i:Nat} (h:i ≠ 3):rowRCnt (upd L i)=rowRCnt L:=by
 have k3:(3:Nat) ≠ i:=fun e=>(h) e.symm
 simp [rowRCnt,upd,k3]
structure rowRJ (r B n0:Nat) (w0:World) (F:World→Prop) (base:Nat) (U:Value) (nn:Nat) (xs:List Value) (tb:Nat) (tc:Array Value)  (L:Nat→Bool) (w:World) (v57 v58 v59 v60 v61 v62 v63:Value):Prop where
 f0:L 0=true→v57=.pointer (some ⟨tb,0,none⟩)
 f1:L 1=true→v58=U
 f2:L 2=true→v59=.pointer (some ⟨r,0,none⟩)
 f3:L 3=true→∃ x:C,v60=.agg #[.string x.s,.int .i64 x.c,.int .i64 x.r,.int .i64 x.a1,.int .i64 x.b1,.int .i64 x.a2,.int .i64 x.b2,.int .i64 x.a3,.int .i64 x.b3,.int .i64 x.a4,.int .i64 x.b4]∧Cx x
 f4:L 4=true→L 5=false→PB n0 w 70 1 (fun arr=>∃ x:C,arr=(cellVs x).toArray∧Cx x) v61
 f6:L 6=true→v63=.pointer (some ⟨tb,0,none⟩)
 rd:Rd w r (B+rowRCnt L)
 bk:Bk r w0 w
 fr:F w
 own:L 5=false→w.ownsRow base 70 11 U nn xs
 ownA:L 5=true→∃ nw,(∃ x,nw=cellVs x∧Cx x)∧w.ownsRow base 70 11 v62 (nn+1) (xs ++ nw)
 tb0:L 7=false→w.heap[tb]?=some (.cells tc 65)
 tb1:L 7=true→w.heap[tb]?=some (.cells (tc.setIfInBounds (0) v62) 65)
def rowR (r B n0:Nat) (w0:World) (F:World→Prop) (base:Nat) (U:Value) (nn:Nat) (xs:List Value) (tb:Nat) (tc:Array Value)  (mk:Value→Value→Value→Value→Value→Value→Value→Act) (L:Nat→Bool) (a:Act) (w:World):Prop:=∃ v57 v58 v59 v60 v61 v62 v63:Value,a=mk v57 v58 v59 v60 v61 v62 v63∧rowRJ r B n0 w0 F base U nn xs tb tc L w v57 v58 v59 v60 v61 v62 v63
set_option maxRecDepth 100000 in
set_option maxHeartbeats 400000 in
theorem specBrdOk (a b:Int) (w:World) :
  Calls Tryz.prog 71 #[.agg #[.int .i64 a,.int .i64 b]] w fun e w'=>e=.returned (.bool (brdOkB a b))∧w'=w.alloc (.cells #[.int .i64 a,.int .i64 b] 68):=by
 by_cases h0:a=0
 ·subst h0
  go_enter Tryz.func71,Tryz.ntmps71
  go_wp2
  go_ret
  exact ⟨retB (brd_zero b).symm,rfl⟩
 by_cases h4:a=4
 ·subst h4
  go_enter Tryz.func71,Tryz.ntmps71
  go_wp2
  go_ret
  exact ⟨retB (brd_four b).symm,rfl⟩
 have e0:(a == 0)=false:=beq_eq_false_iff_ne.2 h0
 have e4:(a == 4)=false:=beq_eq_false_iff_ne.2 h4
 by_cases h:1≤a∧a≤3
 ·have hi:inB a 1 3=true:=inB_true h.1 h.2
  have HB:Hid (brdOkB a b=inB b 1 3):=brd_seen b h.1 h.2
  clear h h0 h4
  go_enter Tryz.func71,Tryz.ntmps71
  go_wp2_with (go_at_call 36;refine (l1In_any _ _ _ _).mono ?_;rintro e w' ⟨rfl,rfl⟩)
  go_ret
  exact ⟨retB HB.out.symm,rfl⟩
 ·have hi:inB a 1 3=false:=inB_false h
  have HB:Hid (brdOkB a b=false):=brd_other b h0 h4 h
  clear h h0 h4
  go_enter Tryz.func71,Tryz.ntmps71
  go_wp2_with (go_at_call 36;refine (l1In_any _ _ _ _).mono ?_;rintro e w' ⟨rfl,rfl⟩)
  go_ret
  exact ⟨retB HB.out.symm,rfl⟩
set_option maxRecDepth 100000 in
set_option maxHeartbeats 1000000 in
theorem specCellOk (s:ByteArray) (c r a1 b1 a2 b2 a3 b3 a4 b4:Int) (w:World) (hs:s.size≤maxLen) :
  Calls Tryz.prog 38 #[.agg #[.string s,.int .i64 c,.int .i64 r,.int .i64 a1,.int .i64 b1,.int .i64 a2,.int .i64 b2,.int .i64 a3,.int .i64 b3,.int .i64 a4,.int .i64 b4]] w fun e w'=>e=.returned (.bool (cellOkB s c r a1 b1 a2 b2 a3 b3 a4 b4))∧Below w.heap.size w w':=by
 cases h0:txtOkB s
 ·
  as_aux_lemma =>
   have HB:Hid (cellOkB s c r a1 b1 a2 b2 a3 b3 a4 b4=false):=Hid.mk (by simp [cellOkB,h0])
   go_enter Tryz.func38,Tryz.ntmps38
   go_wp2_with (first | (go_at_call 70;refine (specTxtOk _ _ hs).mono ?_;rintro e w' ⟨rfl,rfl⟩) | (go_at_call 36;refine (l1In_any _ _ _ _).mono ?_;rintro e w' ⟨rfl,rfl⟩) | (go_at_call 71;refine (specBrdOk _ _ _).mono ?_;rintro e w' ⟨rfl,rfl⟩))
   go_ret
   exact ⟨retB HB.out.symm,by repeat (first | exact Below.refl _ _ | apply k_alloc)⟩
 cases h1:inB c 1 4
 ·
  as_aux_lemma =>
   have HB:Hid (cellOkB s c r a1 b1 a2 b2 a3 b3 a4 b4=false):=Hid.mk (by simp [cellOkB,h0,h1])
   go_enter Tryz.func38,Tryz.ntmps38
   go_wp2_with (first | (go_at_call 70;refine (specTxtOk _ _ hs).mono ?_;rintro e w' ⟨rfl,rfl⟩) | (go_at_call 36;refine (l1In_any _ _ _ _).mono ?_;rintro e w' ⟨rfl,rfl⟩) | (go_at_call 71;refine (specBrdOk _ _ _).mono ?_;rintro e w' ⟨rfl,rfl⟩))
   go_ret
   exact ⟨retB HB.out.symm,by repeat (first | exact Below.refl _ _ | apply k_alloc)⟩
 cases h2:inB r 1 4
 ·
  as_aux_lemma =>
   have HB:Hid (cellOkB s c r a1 b1 a2 b2 a3 b3 a4 b4=false):=Hid.mk (by simp [cellOkB,h0,h1,h2])
   go_enter Tryz.func38,Tryz.ntmps38
   go_wp2_with (first | (go_at_call 70;refine (specTxtOk _ _ hs).mono ?_;rintro e w' ⟨rfl,rfl⟩) | (go_at_call 36;refine (l1In_any _ _ _ _).mono ?_;rintro e w' ⟨rfl,rfl⟩) | (go_at_call 71;refine (specBrdOk _ _ _).mono ?_;rintro e w' ⟨rfl,rfl⟩))
   go_ret
   exact ⟨retB HB.out.symm,by repeat (first | exact Below.refl _ _ | apply k_alloc)⟩
 cases h3:brdOkB a1 b1
 ·
  as_aux_lemma =>
   have HB:Hid (cellOkB s c r a1 b1 a2 b2 a3 b3 a4 b4=false):=Hid.mk (by simp [cellOkB,h0,h1,h2,h3])
   go_enter Tryz.func38,Tryz.ntmps38
   go_wp2_with (first | (go_at_call 70;refine (specTxtOk _ _ hs).mono ?_;rintro e w' ⟨rfl,rfl⟩) | (go_at_call 36;refine (l1In_any _ _ _ _).mono ?_;rintro e w' ⟨rfl,rfl⟩) | (go_at_call 71;refine (specBrdOk _ _ _).mono ?_;rintro e w' ⟨rfl,rfl⟩))
   go_ret
   exact ⟨retB HB.out.symm,by repeat (first | exact Below.refl _ _ | apply k_alloc)⟩
 cases h4:brdOkB a2 b2
 ·
  as_aux_lemma =>
   have HB:Hid (cellOkB s c r a1 b1 a2 b2 a3 b3 a4 b4=false):=Hid.mk (by simp [cellOkB,h0,h1,h2,h3,h4])
   go_enter Tryz.func38,Tryz.ntmps38
   go_wp2_with (first | (go_at_call 70;refine (specTxtOk _ _ hs).mono ?_;rintro e w' ⟨rfl,rfl⟩) | (go_at_call 36;refine (l1In_any _ _ _ _).mono ?_;rintro e w' ⟨rfl,rfl⟩) | (go_at_call 71;refine (specBrdOk _ _ _).mono ?_;rintro e w' ⟨rfl,rfl⟩))
   go_ret
   exact ⟨retB HB.out.symm,by repeat (first | exact Below.refl _ _ | apply k_alloc)⟩
 cases h5:brdOkB a3 b3
 ·
  as_aux_lemma =>
   have HB:Hid (cellOkB s c r a1 b1 a2 b2 a3 b3 a4 b4=false):=Hid.mk (by simp [cellOkB,h0,h1,h2,h3,h4,h5])
   go_enter Tryz.func38,Tryz.ntmps38
   go_wp2_with (first | (go_at_call 70;refine (specTxtOk _ _ hs).mono ?_;rintro e w' ⟨rfl,rfl⟩) | (go_at_call 36;refine (l1In_any _ _ _ _).mono ?_;rintro e w' ⟨rfl,rfl⟩) | (go_at_call 71;refine (specBrdOk _ _ _).mono ?_;rintro e w' ⟨rfl,rfl⟩))
   go_ret
   exact ⟨retB HB.out.symm,by repeat (first | exact Below.refl _ _ | apply k_alloc)⟩
 as_aux_lemma =>
  have HB:Hid (cellOkB s c r a1 b1 a2 b2 a3 b3 a4 b4=brdOkB a4 b4):=Hid.mk (by simp [cellOkB,h0,h1,h2,h3,h4,h5])
  go_enter Tryz.func38,Tryz.ntmps38
  go_wp2_with (first | (go_at_call 70;refine (specTxtOk _ _ hs).mono ?_;rintro e w' ⟨rfl,rfl⟩) | (go_at_call 36;refine (l1In_any _ _ _ _).mono ?_;rintro e w' ⟨rfl,rfl⟩) | (go_at_call 71;refine (specBrdOk _ _ _).mono ?_;rintro e w' ⟨rfl,rfl⟩))
  go_ret
  exact ⟨retB HB.out.symm,by repeat (first | exact Below.refl _ _ | apply k_alloc)⟩
set_option maxRecDepth 100000 in
set_option maxHeartbeats 1000000 in
theorem specL2Col (k n:Int) (w:World) :
  Calls Tryz.prog 37 #[.agg #[.int .i64 k,.int .i64 n]] w fun e w'=>e=.returned (.bool (colB k n))∧Below w.heap.size w w':=by
 by_cases h0:k=0
 ·subst h0
  have HC:=Hd (colB_0' n)
  go_enter Tryz.func37,Tryz.ntmps37
  go_wp2
  go_ret
  exact ⟨retB HC.out.symm,by repeat (first | refine k_alloc ?_ _ | exact Below.refl _ _)⟩
 by_cases h1:k=1
 ·subst h1
  have HC:=Hd (colB_1 n)
  go_enter Tryz.func37,Tryz.ntmps37
  go_wp2_with (go_at_call 36;refine (l1In_any _ _ _ _).mono ?_;rintro e w' ⟨rfl,rfl⟩)
  go_ret
  exact ⟨retB HC.out.symm,by repeat (first | refine k_alloc ?_ _ | exact Below.refl _ _)⟩
 by_cases h2:k=2
 ·subst h2
  have HC:=Hd (colB_2 n)
  go_enter Tryz.func37,Tryz.ntmps37
  go_wp2_with (go_at_call 36;refine (l1In_any _ _ _ _).mono ?_;rintro e w' ⟨rfl,rfl⟩)
  go_ret
  exact ⟨retB HC.out.symm,by repeat (first | refine k_alloc ?_ _ | exact Below.refl _ _)⟩
 have e0:(k == 0)=false:=beq_eq_false_iff_ne.2 h0
 have e1:(k == 1)=false:=beq_eq_false_iff_ne.2 h1
 have e2:(k == 2)=false:=beq_eq_false_iff_ne.2 h2
 have HC:=Hd (colB_no n h0 h1 h2)
 clear h0 h1 h2
 go_enter Tryz.func37,Tryz.ntmps37
 go_wp2
 go_ret
 exact ⟨retB HC.out.symm,by repeat (first | refine k_alloc ?_ _ | exact Below.refl _ _)⟩
theorem colsB_long {ps:List (Int × Int)} (h:¬ ps.length≤8):colsB ps=false:=by simp [colsB,h]
theorem rowB_long {r:R} (h:¬ r.cells.length≤5):rowB r=false:=by simp [rowB,h]
theorem partsB_a {n:Nat} {hd ft:Int} (h:inB hd 0 n=false):partsB n hd ft=false:=by rw [partsB,h];rfl
theorem partsB_b {n:Nat} {hd ft:Int} (h:inB ft 0 (n - hd)=false):partsB n hd ft=false:=by rw [partsB,h,Bool.and_false]
theorem partsB_t {n:Nat} {hd ft:Int} (h:inB hd 0 n=true) (h':inB ft 0 (n - hd)=true):partsB n hd ft=true:=by rw [partsB,h,h'];rfl
theorem tblB_rows {t:T} (h:t.rows.all rowB=false):tblB t=false:=by simp only [tblB,h,Bool.and_false]
theorem tblB_cols {t:T} (h:colsB t.cols=false):tblB t=false:=by simp only [tblB,h,Bool.and_false,Bool.false_and]
set_option maxRecDepth 100000 in
set_option maxHeartbeats 4000000 in
theorem specTblOk (ac ar:Option Addr) (cc cr:Nat) (t:T) (w:World) {z:Nat} (hc:ColsAt w z (.slice ac t.cols.length cc) t.cols) (hr:RowsAt w z (.slice ar t.rows.length cr) t.rows) :
  Calls Tryz.prog 10 #[.agg #[.slice ac t.cols.length cc,.int .i64 t.head,.int .i64 t.foot,.slice ar t.rows.length cr,.int .i64 t.gap]] w fun e w'=>e=.returned (.bool (tblB t))∧Below w.heap.size w w':=by
 have HC:=Hd hc
 have HR:=Hd hr
 clear hc hr
 have K0:=Hd (k_alloc (Below.refl w.heap.size w) (.cells #[.slice ac t.cols.length cc,.int .i64 t.head,.int .i64 t.foot,.slice ar t.rows.length cr,.int .i64 t.gap] 26))
 cases h0:inB t.rows.length 1 8
 ·skip
  have HF:Hid (tblB t=false):=Hd (by rw [tblB,h0];rfl)
  go_enter Tryz.func10,Tryz.ntmps10
  go_wp2_with (go_at_call 36;refine (l1In_any _ _ _ _).mono ?_;rintro e w' ⟨rfl,rfl⟩)
  go_ret
  exact ⟨retB HF.out.symm,k_alloc (Below.refl _ _) _⟩
 have hN:1≤(t.rows.length:Int)∧(t.rows.length:Int)≤8:=of_decide_eq_true h0
 obtain ⟨hN1,hN2⟩:=hN
 by_cases c8:(8:Int) < (t.cols.length:Int)
 ·skip
  have HF:Hid (tblB t=false):=Hd (tblB_cols (colsB_long (by omega)))
  go_enter Tryz.func10,Tryz.ntmps10
  go_wp2_with (go_at_call 36;refine (l1In_any _ _ _ _).mono ?_;rintro e w' ⟨rfl,rfl⟩)
  go_ret
  exact ⟨retB HF.out.symm,k_alloc (Below.refl _ _) _⟩
 have c8':t.cols.length≤8:=by omega
 cases h1:inB t.head 0 t.rows.length
 ·skip
  have HF:Hid (tblB t=false):=Hd (by simp only [tblB,partsB_a h1,Bool.false_and,Bool.and_false])
  go_enter Tryz.func10,Tryz.ntmps10
  go_wp2_with (go_at_call 36;refine (l1In_any _ _ _ _).mono ?_;rintro e w' ⟨rfl,rfl⟩)
  go_ret
  exact ⟨retB HF.out.symm,k_alloc (Below.refl _ _) _⟩
 have hH:0≤t.head∧t.head≤t.rows.length:=of_decide_eq_true h1
 obtain ⟨hH1,hH2⟩:=hH
 cases h2:inB t.foot 0 (t.rows.length - t.head)
 ·skip
  have HF:Hid (tblB t=false):=Hd (by simp only [tblB,partsB_b h2,Bool.false_and,Bool.and_false])
  go_enter Tryz.func10,Tryz.ntmps10
  go_wp2_with (go_at_call 36;refine (l1In_any _ _ _ _).mono ?_;rintro e w' ⟨rfl,rfl⟩)
  go_ret
  exact ⟨retB HF.out.symm,k_alloc (Below.refl _ _) _⟩
 cases h3:inB t.gap 0 3
 ·skip
  have HF:Hid (tblB t=false):=Hd (by simp only [tblB,h3,Bool.false_and,Bool.and_false])
  go_enter Tryz.func10,Tryz.ntmps10
  go_wp2_with (go_at_call 36;refine (l1In_any _ _ _ _).mono ?_;rintro e w' ⟨rfl,rfl⟩)
  go_ret
  exact ⟨retB HF.out.symm,k_alloc (Below.refl _ _) _⟩
 have HT:Hid (tblB t=(colsB t.cols && t.rows.all rowB)):=Hd (by rw [tblB,h0,partsB_t h1 h2,h3];rfl)
 go_enter Tryz.func10,Tryz.ntmps10
 go_wp2_with (go_at_call 36;refine (l1In_any _ _ _ _).mono ?_;rintro e w' ⟨rfl,rfl⟩)
 clear h0 h1 h2 h3
 go_loopw [3] (fun i W=>∃ k:Nat,k≤t.cols.length∧i=.int .i64 k∧Hid (∀ j,j < k→(fun p:Int × Int=>colB p.1 p.2) (t.cols.getD j (0,0))=true)∧Hid (Below (w.alloc (.cells #[.slice ac t.cols.length cc,.int .i64 t.head,.int .i64 t.foot,.slice ar t.rows.length cr,.int .i64 t.gap] 26)).heap.size (w.alloc (.cells #[.slice ac t.cols.length cc,.int .i64 t.head,.int .i64 t.foot,.slice ar t.rows.length cr,.int .i64 t.gap] 26)) W)) (fun i _=>t.cols.length - (intOf i).toNat)
 case atStart=>exact ⟨0,Nat.zero_le _,rfl,fun j hj=>absurd hj (Nat.not_lt_zero _),Below.refl _ _⟩
 case round =>
  obtain ⟨k,hk,rfl,HA,HL⟩:=hrel
  obtain ⟨m0,m1,m2,m3,m4⟩:=fiveO ((HL.out.block w.heap.size (by simp)).trans (newestO _ _))
  by_cases hlt:k < t.cols.length
  ·obtain ⟨b,off,cap',e',hc1,hc2,hbl,hx0,hx1⟩:=At.get (HC.out.kept (k_trans K0.out HL.out)) hlt
   simp only [Value.slice.injEq,true_and] at e'
   obtain ⟨rfl,rfl⟩:=e'
   unfold maxLen at hc2
   cases hv:colB (t.cols.getD k (0,0)).1 (t.cols.getD k (0,0)).2
   ·have HF:Hid (tblB t=false):=Hd (tblB_cols (by rw [colsB,all_false (0,0) (fun p:Int × Int=>colB p.1 p.2) t.cols k hlt hv,Bool.and_false]))
    generalize t.cols.getD k (0,0)=x at hx0 hx1 hv
    go_wp2_with fail
    refine (specL2Col _ _ _).mono ?_
    rw [hv]
    rintro e w1 ⟨rfl,hb1⟩
    have K1:=Hd (k_trans (k_trans K0.out HL.out) hb1)
    clear hb1
    go_wp2
    go_ret
    exact ⟨retB HF.out.symm,K1.out⟩
   ·have HN:=Hd (next_true (p:=fun p:Int × Int=>colB p.1 p.2) HA.out hv)
    generalize t.cols.getD k (0,0)=x at hx0 hx1 hv
    go_wp2_with fail
    refine (specL2Col _ _ _).mono ?_
    rw [hv]
    rintro e w1 ⟨rfl,hb1⟩
    have K1:=Hd (k_trans HL.out hb1)
    clear hb1
    go_wp2
    go_roundw
    case rel=>exact ⟨k+1,by omega,by go_num,HN,K1⟩
    case measure=>simp [intOf];omega
  ·obtain rfl:k=t.cols.length:=by omega
   have HCt:Hid (colsB t.cols=true):=Hd (by rw [colsB,all_true (0,0) (fun p:Int × Int=>colB p.1 p.2) t.cols HA.out];simp [c8'])
   go_wp2_with fail
   go_loopw [4,5] (fun i _ W=>∃ k:Nat,k≤t.rows.length∧i=.int .i64 k∧Hid (∀ j,j < k→rowB (t.rows.getD j dR)=true)∧Hid (Below (w.alloc (.cells #[.slice ac t.cols.length cc,.int .i64 t.head,.int .i64 t.foot,.slice ar t.rows.length cr,.int .i64 t.gap] 26)).heap.size (w.alloc (.cells #[.slice ac t.cols.length cc,.int .i64 t.head,.int .i64 t.foot,.slice ar t.rows.length cr,.int .i64 t.gap] 26)) W)) (fun i _ _=>t.rows.length - (intOf i).toNat)
   case atStart=>exact ⟨0,Nat.zero_le _,rfl,fun j hj=>absurd hj (Nat.not_lt_zero _),HL⟩
   case round =>
    obtain ⟨q,hq,rfl,HA2,HL2⟩:=hrel
    clear m0 m1 m2 m3 m4
    obtain ⟨m0,m1,m2,m3,m4⟩:=fiveO ((HL2.out.block w.heap.size (by simp)).trans (newestO _ _))
    by_cases hlq:q < t.rows.length
    ·obtain ⟨b,off,cap',e',hc1,hc2,hbl,u,hx0,hx1,hx⟩:=At.get (HR.out.kept (k_trans K0.out HL2.out)) hlq
     simp only [Value.slice.injEq,true_and] at e'
     obtain ⟨rfl,rfl⟩:=e'
     unfold maxLen at hc2
     obtain ⟨ua,ucap,rfl,hul⟩:=At.form hx
     unfold maxLen at hul
     have HX:=Hd hx
     clear hx
     have HRF:=Hd (fun hb=>tblB_rows (all_false dR rowB t.rows q hlq hb))
     have HRN:=Hd (fun hb=>next_true (d:=dR) (p:=rowB) (l:=t.rows) (k:=q) HA2.out hb)
     generalize hxx:t.rows.getD q dR=x at hx0 hx1 hul HX HRF HRN
     clear hxx
     by_cases h5:(5:Int) < (x.cells.length:Int)
     ·have HF:Hid (tblB t=false):=Hd (HRF.out (rowB_long (by omega)))
      go_wp2
      go_ret
      exact ⟨retB HF.out.symm,k_trans K0.out HL2.out⟩
     ·have h5':x.cells.length≤5:=by omega
      go_wp2_with fail
      obtain ⟨wo,rfl⟩:∃ wo:World,wo=wr:=⟨_,rfl⟩
      go_loopw [5] (fun i W=>∃ p:Nat,p≤x.cells.length∧i=.int .i64 p∧Hid (∀ j,j < p→cB (x.cells.getD j dC)=true)∧Hid (Below (w.alloc (.cells #[.slice ac t.cols.length cc,.int .i64 t.head,.int .i64 t.foot,.slice (some ⟨b,off,none⟩) t.rows.length cr,.int .i64 t.gap] 26)).heap.size (w.alloc (.cells #[.slice ac t.cols.length cc,.int .i64 t.head,.int .i64 t.foot,.slice (some ⟨b,off,none⟩) t.rows.length cr,.int .i64 t.gap] 26)) W)∧Hid (Below wo.heap.size wo W)) (fun i _=>x.cells.length - (intOf i).toNat)
      case atStart=>exact ⟨0,Nat.zero_le _,rfl,fun j hj=>absurd hj (Nat.not_lt_zero _),HL2,Below.refl _ _⟩
      case round =>
       obtain ⟨p,hp,rfl,HA3,HL3,HO⟩:=hrel
       clear m0 m1 m2 m3 m4
       obtain ⟨m0,m1,m2,m3,m4⟩:=fiveO ((HL3.out.block w.heap.size (by simp)).trans (newestO _ _))
       have hy0:=(HO.out.cell (p:=⟨b,off+q * 2,none⟩) hbl).trans hx0
       clear hx0 hx1
       by_cases hlp:p < x.cells.length
       ·obtain ⟨b2,off2,cap2,e2,hd1,hd2,hbl2,hz,hs⟩:=At.get (HX.out.kept HO.out) hlp
        simp only [Value.slice.injEq,true_and] at e2
        obtain ⟨rfl,rfl⟩:=e2
        unfold maxLen at hd2
        have hs':=Hd hs
        clear hs
        cases hv:cB (x.cells.getD p dC)
        ·have HF:Hid (tblB t=false):=Hd (HRF.out (by rw [rowB,all_false dC cB x.cells p hlp hv,Bool.and_false]))
         generalize x.cells.getD p dC=y at hz hs' hv
         obtain ⟨x0,x1,x2,x3,x4,x5,x6,x7,x8,x9,x10⟩:=hz
         go_wp2_with fail
         refine (specCellOk _ _ _ _ _ _ _ _ _ _ _ _ hs'.out).mono ?_
         rw [show cellOkB y.s y.c y.r y.a1 y.b1 y.a2 y.b2 y.a3 y.b3 y.a4 y.b4=false from hv]
         rintro e w1 ⟨rfl,hb1⟩
         have K1:=Hd (k_trans (k_trans K0.out HL3.out) hb1)
         clear hb1
         go_wp2
         go_ret
         exact ⟨retB HF.out.symm,K1.out⟩
        ·have HN:=Hd (next_true HA3.out hv)
         generalize x.cells.getD p dC=y at hz hs' hv
         obtain ⟨x0,x1,x2,x3,x4,x5,x6,x7,x8,x9,x10⟩:=hz
         go_wp2_with fail
         refine (specCellOk _ _ _ _ _ _ _ _ _ _ _ _ hs'.out).mono ?_
         rw [show cellOkB y.s y.c y.r y.a1 y.b1 y.a2 y.b2 y.a3 y.b3 y.a4 y.b4=true from hv]
         rintro e w1 ⟨rfl,hb1⟩
         have K1:=Hd (k_trans HL3.out hb1)
         have O1:=Hd (k_trans HO.out hb1)
         clear hb1
         go_wp2
         go_roundw
         case rel=>exact ⟨p+1,by omega,by go_num,HN,K1,O1⟩
         case measure=>simp [intOf];omega
       ·obtain rfl:p=x.cells.length:=by omega
        have HN:=Hd (HRN.out (by rw [rowB,all_true dC cB x.cells HA3.out];simp [h5']))
        go_wp2
        go_roundw
        case rel=>exact ⟨q+1,by omega,by go_num,HN,HL3⟩
        case measure=>simp [intOf];omega
    ·obtain rfl:q=t.rows.length:=by omega
     have HF:Hid (tblB t=true):=Hd (by rw [HT.out,HCt.out,all_true dR rowB t.rows HA2.out];rfl)
     go_wp2
     go_ret
     exact ⟨retB HF.out.symm,k_trans K0.out HL2.out⟩
end Go.Proofs.YtggmjiddadjilaeGreat
