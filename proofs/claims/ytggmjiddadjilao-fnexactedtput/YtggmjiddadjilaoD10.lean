/-
  PROVED HERE: what the program's TblOk answers at a table that lies in memory: one Bool; nothing that was in memory is turned. Also: a region that draws its order, by a fact that each operation keeps, whatever was carried out ahead of it. Also: as AnyInv's law, and besides: what an operation hangs on has been carried out ahead of it. Also: what the program's copyOf answers: of a table that is ok the same table, in memory of its own; else nothing and false; nothing that was in memory is turned. Also: an append to what is owned, whatever slice is put behind it; rows that are owned grow by one. Also: boxes that are newly made, and how many cells a row of a table that is ok has.
-/
import Derived.Test.YtggmjiddadjilaoD9
import Derived.Test.YtggmjiddadjilaoD3
import Derived.Test.YtggmjiddadjilaoD5
import Derived.Test.YtggmjiddadjilaoD6
import Derived.WalkLawsBesides
import Derived.WalkSpells
import Derived.Deep.QuietTactic
import Derived.BigQuiet
import Derived.RegionTactic
import Derived.Lib.SmallJoins
import Derived.Orders
import Derived.Deep.RegionWith
import Derived.Deep.Cut
import Derived.Laws.AppendOwn
import Derived.Laws.OwnMore
namespace Go.Proofs.Ytggmjiddadjilao
open Go.RowKit

set_option maxRecDepth 100000 in
set_option maxHeartbeats 2000000 in
theorem implTblOk (ac ar:Option Addr) (cc cr:Nat) (t:T) (w:World) {z:Nat} (hc:ColsAt w z (.slice ac t.cols.length cc) t.cols) (hr:RowsAt w z (.slice ar t.rows.length cr) t.rows) :
  Calls Try.prog 82 #[.agg #[.slice ac t.cols.length cc,.int .i64 t.head,.int .i64 t.foot,.slice ar t.rows.length cr,.int .i64 t.gap]] w fun e w'=>e=.returned (.bool (tblB t))∧Below w.heap.size w w':=by
 have HC:=Hid.intro hc
 have HR:=Hid.intro hr
 clear hc hr
 have K0:=Hid.intro (k_alloc (Below.refl w.heap.size w) (.cells #[.slice ac t.cols.length cc,.int .i64 t.head,.int .i64 t.foot,.slice ar t.rows.length cr,.int .i64 t.gap] 56))
 cases h0:inB t.rows.length 1 8
 ·skip
  have HF:Hid (tblB t=false):=Hid.intro (by simp [tblB,h0])
  go_enter Try.func82,Try.ntmps82
  go_wp2_with (go_at_call 55;refine (within_any _ _ _ _).mono ?_;rintro e w' ⟨rfl,rfl⟩)
  go_ret
  exact ⟨retB HF.out.symm,k_alloc (Below.refl _ _) _⟩
 cases h1:partsB t.rows.length t.head t.foot
 ·skip
  have HF:Hid (tblB t=false):=Hid.intro (by simp [tblB,h0,h1])
  have hN:0≤((t.rows.length:Nat):Int) - 1∧((t.rows.length:Nat):Int)≤8:=by have:=of_decide_eq_true h0;omega
  go_enter Try.func82,Try.ntmps82
  go_wp2_with (go_at_call 55;refine (within_any _ _ _ _).mono ?_;rintro e w' ⟨rfl,rfl⟩)
  refine (partsOk_any _ ar t.rows.length cr t.head t.foot t.gap ac t.cols.length cc rfl (by omega) _).mono ?_
  rw [h1]
  rintro e w1 ⟨rfl,hb1⟩
  obtain ⟨m0,m1,m2,m3,m4⟩:=fiveO ((hb1.block w.heap.size (by simp)).trans (newestO _ _))
  have K1:=Hid.intro (k_trans K0.out hb1)
  have L1:=Hid.intro hb1
  clear hb1
  go_wp2_with (go_at_call 55;refine (within_any _ _ _ _).mono ?_;rintro e w' ⟨rfl,rfl⟩)
  go_ret
  exact ⟨retB HF.out.symm,K1.out⟩
 cases h2:inB t.gap 0 3
 ·skip
  have HF:Hid (tblB t=false):=Hid.intro (by simp [tblB,h0,h1,h2])
  have hN:0≤((t.rows.length:Nat):Int) - 1∧((t.rows.length:Nat):Int)≤8:=by have:=of_decide_eq_true h0;omega
  go_enter Try.func82,Try.ntmps82
  go_wp2_with (go_at_call 55;refine (within_any _ _ _ _).mono ?_;rintro e w' ⟨rfl,rfl⟩)
  refine (partsOk_any _ ar t.rows.length cr t.head t.foot t.gap ac t.cols.length cc rfl (by omega) _).mono ?_
  rw [h1]
  rintro e w1 ⟨rfl,hb1⟩
  obtain ⟨m0,m1,m2,m3,m4⟩:=fiveO ((hb1.block w.heap.size (by simp)).trans (newestO _ _))
  have K1:=Hid.intro (k_trans K0.out hb1)
  have L1:=Hid.intro hb1
  clear hb1
  go_wp2_with (go_at_call 55;refine (within_any _ _ _ _).mono ?_;rintro e w' ⟨rfl,rfl⟩)
  go_ret
  exact ⟨retB HF.out.symm,K1.out⟩
 cases h3:colsB t.cols
 ·skip
  have HF:Hid (tblB t=false):=Hid.intro (by simp [tblB,h0,h1,h2,h3])
  have hN:0≤((t.rows.length:Nat):Int) - 1∧((t.rows.length:Nat):Int)≤8:=by have:=of_decide_eq_true h0;omega
  go_enter Try.func82,Try.ntmps82
  go_wp2_with (go_at_call 55;refine (within_any _ _ _ _).mono ?_;rintro e w' ⟨rfl,rfl⟩)
  refine (partsOk_any _ ar t.rows.length cr t.head t.foot t.gap ac t.cols.length cc rfl (by omega) _).mono ?_
  rw [h1]
  rintro e w1 ⟨rfl,hb1⟩
  obtain ⟨m0,m1,m2,m3,m4⟩:=fiveO ((hb1.block w.heap.size (by simp)).trans (newestO _ _))
  have K1:=Hid.intro (k_trans K0.out hb1)
  have L1:=Hid.intro hb1
  clear hb1
  go_wp2_with (go_at_call 55;refine (within_any _ _ _ _).mono ?_;rintro e w' ⟨rfl,rfl⟩)
  refine (columnsOk_any _ t.cols _ (HC.out.kept K1.out)).mono ?_
  rw [h3]
  rintro e w2 ⟨rfl,hb2⟩
  obtain ⟨n0,n1,n2,n3,n4⟩:=fiveO (((k_trans L1.out hb2).block w.heap.size (by simp)).trans (newestO _ _))
  have K2:=Hid.intro (k_trans K1.out hb2)
  clear hb2
  go_wp2
  go_ret
  exact ⟨retB HF.out.symm,K2.out⟩
 have HF:Hid (tblB t=t.rows.all rowB):=Hid.intro (by simp [tblB,h0,h1,h2,h3])
 have hN:0≤((t.rows.length:Nat):Int) - 1∧((t.rows.length:Nat):Int)≤8:=by have:=of_decide_eq_true h0;omega
 go_enter Try.func82,Try.ntmps82
 go_wp2_with (go_at_call 55;refine (within_any _ _ _ _).mono ?_;rintro e w' ⟨rfl,rfl⟩)
 refine (partsOk_any _ ar t.rows.length cr t.head t.foot t.gap ac t.cols.length cc rfl (by omega) _).mono ?_
 rw [h1]
 rintro e w1 ⟨rfl,hb1⟩
 obtain ⟨m0,m1,m2,m3,m4⟩:=fiveO ((hb1.block w.heap.size (by simp)).trans (newestO _ _))
 have K1:=Hid.intro (k_trans K0.out hb1)
 have L1:=Hid.intro hb1
 clear hb1
 go_wp2_with (go_at_call 55;refine (within_any _ _ _ _).mono ?_;rintro e w' ⟨rfl,rfl⟩)
 refine (columnsOk_any _ t.cols _ (HC.out.kept K1.out)).mono ?_
 rw [h3]
 rintro e w2 ⟨rfl,hb2⟩
 obtain ⟨n0,n1,n2,n3,n4⟩:=fiveO (((k_trans L1.out hb2).block w.heap.size (by simp)).trans (newestO _ _))
 have K2:=Hid.intro (k_trans K1.out hb2)
 clear hb2
 go_wp2_with fail
 refine (rowsOk_any _ t.rows _ (HR.out.kept K2.out)).mono ?_
 rintro e w3 ⟨rfl,hb3⟩
 have K3:=Hid.intro (k_trans K2.out hb3)
 clear hb3
 go_wp2
 go_ret
 exact ⟨retB HF.out.symm,K3.out⟩
end Go.Proofs.Ytggmjiddadjilao
namespace Go.Proofs.Ytggmjiddadjilao
open Go.RowKit

def upd (L:Nat→Bool) (i:Nat):Nat→Bool:=fun j=>if j=i then true else L j
theorem upd_ne {L:Nat→Bool} {i j:Nat} (h:(j == i)=false):upd L i j=L j:=by
 unfold upd
 rw [if_neg (fun e=>by rw [e] at h;simp at h)]
theorem un {L:Nat→Bool} {i j:Nat} {b:Bool} (h:upd L i j=b) (e:(j == i)=false:=by rfl):L j=b:=by rwa [upd_ne e] at h
theorem upd_self {L:Nat→Bool} {i:Nat}:upd L i i=true:=by simp [upd]
/-- each operation hangs on operations ahead of it alone -/
def aheadB (ops:Array Oper):Bool:=(List.range ops.size).all fun i=>((ops[i]?).map fun o=>o.after.all fun e=>!Region.binds .any e || decide (e.on < i)).getD true
theorem ahead_all {ops:Array Oper} (h:aheadB ops=true) {listed:Array Bool} (hs:listed.size=ops.size) (hr:Region.ready .any ops listed=[]):∀ i,i < ops.size→listed.getD i false=true:=by
 intro i
 induction i using Nat.strongRecOn with
 | ind i ih =>
  intro hi
  cases hl:listed.getD i false with
  | true=>rfl
  | false =>
   exfalso
   have ho:ops[i]?=some ops[i]:=Array.getElem?_eq_getElem hi
   have h1:=List.all_eq_true.1 h i (List.mem_range.2 hi)
   rw [ho] at h1
   simp only [Option.map_some,Option.getD_some] at h1
   have hm:i ∈ Region.ready .any ops listed:=by
    unfold Region.ready
    rw [List.mem_filter]
    refine ⟨List.mem_range.2 hi,?_⟩
    have h2:listed.getD i true=false:=by
     rw [Array.getD_eq_getD_getElem?,Array.getElem?_eq_getElem (by omega)] at hl ⊢
     exact hl
    rw [h2,ho]
    simp only [Bool.not_false,Bool.true_and,Option.map_some,Option.getD_some]
    rw [Array.all_eq_true_iff_forall_mem]
    intro e he
    have h3:=Array.all_eq_true_iff_forall_mem.1 h1 e he
    cases hbn:Region.binds .any e with
    | false=>simp
    | true =>
     rw [hbn] at h3
     have h4:e.on < i:=by simpa using h3
     rw [ih e.on h4 (by omega)]
     simp
   rw [hr] at hm
   cases hm
theorem listed_set {listed:Array Bool} {i:Nat} (hi:i < listed.size):(fun j=>(listed.setIfInBounds i true).getD j false)=upd (fun j=>listed.getD j false) i:=by
 funext j
 unfold upd
 rw [Array.getD_eq_getD_getElem?]
 by_cases h:j=i
 ·subst h;simp [hi]
 ·rw [if_neg h,Array.getElem?_setIfInBounds_ne (Ne.symm h)]
  exact (Array.getD_eq_getD_getElem? ..).symm
theorem count_set {l:List Bool} {i:Nat} (h:l[i]?=some false):(l.set i true).count false+1=l.count false:=by
 induction l generalizing i with
 | nil=>simp at h
 | cons a t ih =>
  cases i with
  | zero=>simp at h;subst h;simp
  | succ i =>
   simp at h
   have:=ih h
   rw [List.set_cons_succ,List.count_cons,List.count_cons]
   omega

section
variable {P:Program} {ops:Array Oper} {Q:Exit→Act→World→Prop} (J:(Nat→Bool)→Act→World→Prop)
theorem wpAny_inv (hord:aheadB ops=true)
  (hs:∀ (L:Nat→Bool) (a:Act) (w:World) (i:Nat) (o:Oper),J L a w→ops[i]?=some o→L i=false→(∀ e ∈ o.after,Region.binds .any e=true→L e.on=true) →
   ∀ K:Act→World→Prop,(∀ a' w',J (upd L i) a' w'→K a' w')→if Region.wanted o (yielded ops a.tmps)=true then o.wp P a w K Q else K (a.put o.dst undef) w)
  (hd:∀ (L:Nat→Bool) (a:Act) (w:World),J L a w→(∀ i,i < ops.size→L i=true)→Q .normal a w) :
  ∀ (fuel:Nat) (listed:Array Bool) (a:Act) (w:World),listed.size=ops.size→listed.toList.count false≤fuel→J (fun j=>listed.getD j false) a w→wpAny P .any ops Q fuel listed a w:=by
 intro fuel
 induction fuel with
 | zero =>
  intro listed a w hsz hc hJ
  have hall:∀ i,i < ops.size→listed.getD i false=true:=by
   intro i hi
   have h0:listed.toList.count false=0:=by omega
   have hi':i < listed.size:=by omega
   have:=List.count_eq_zero.1 h0
   have hm:listed[i] ∈ listed.toList:=by simp
   rw [Array.getD_eq_getD_getElem?,Array.getElem?_eq_getElem hi',Option.getD_some]
   cases hv:listed[i] with
   | true=>rfl
   | false=>rw [hv] at hm;exact absurd hm this
  refine ⟨?_,hd _ _ _ hJ hall⟩
  unfold Region.ready
  rw [List.filter_eq_nil_iff]
  intro i hi
  have hi2:=List.mem_range.1 hi
  have:=hall i hi2
  have h3:listed.getD i true=true:=by
   rw [Array.getD_eq_getD_getElem?,Array.getElem?_eq_getElem (by omega)] at this ⊢
   exact this
  rw [h3];simp
 | succ fuel ih =>
  intro listed a w hsz hc hJ
  refine ⟨fun hr=>hd _ _ _ hJ (ahead_all hord hsz hr),fun i hi=>?_⟩
  unfold Region.ready at hi
  rw [List.mem_filter] at hi
  obtain ⟨h1,h2⟩:=hi
  have hlt:=List.mem_range.1 h1
  have ho:ops[i]?=some ops[i]:=Array.getElem?_eq_getElem hlt
  rw [ho] at h2
  simp only [Option.map_some,Option.getD_some,Bool.and_eq_true] at h2
  obtain ⟨h3,h4⟩:=h2
  have hil:i < listed.size:=by omega
  have hv:listed[i]=false:=by
   rw [Array.getD_eq_getD_getElem?,Array.getElem?_eq_getElem hil] at h3
   simpa using h3
  have hfi:listed.getD i false=false:=by rw [Array.getD_eq_getD_getElem?,Array.getElem?_eq_getElem hil,hv];rfl
  have hstep:=hs _ a w i ops[i] hJ ho hfi (fun e he hb=>by
   have:=Array.all_eq_true_iff_forall_mem.1 h4 e he
   rw [hb] at this
   simpa using this) (wpAny P .any ops Q fuel (listed.setIfInBounds i true)) (fun a' w' hJ'=>ih _ a' w' (by simpa using hsz) (by
    have:=count_set (l:=listed.toList) (i:=i) (by rw [Array.getElem?_toList,Array.getElem?_eq_getElem hil,hv])
    rw [Array.toList_setIfInBounds]
    omega) (by rw [listed_set hil];exact hJ'))
  unfold wpOp
  rw [ho]
  dsimp only
  split
  ·rename_i hw;rw [if_pos hw] at hstep;exact .inl hstep
  ·rename_i hw;rw [if_neg hw] at hstep;exact hstep
theorem wp_region_inv {id:Nat} {a:Act} {w:World} (hm:P.follows .mixedOrders=true) (hord:aheadB ops=true)
  (hs:∀ (L:Nat→Bool) (a:Act) (w:World) (i:Nat) (o:Oper),J L a w→ops[i]?=some o→L i=false→(∀ e ∈ o.after,Region.binds .any e=true→L e.on=true) →
   ∀ K:Act→World→Prop,(∀ a' w',J (upd L i) a' w'→K a' w')→if Region.wanted o (yielded ops a.tmps)=true then o.wp P a w K Q else K (a.put o.dst undef) w)
  (hd:∀ (L:Nat→Bool) (a:Act) (w:World),J L a w→(∀ i,i < ops.size→L i=true)→Q .normal a w)
  (h0:J (fun _=>false) a w.drew):(Code.region id ops true).wp P Q a w:=by
 refine wp_region_any hm (wpAny_inv J hord hs hd _ _ _ _ (by simp) (by simp) ?_)
 have e:(fun j=>(Array.replicate ops.size false).getD j false)=fun _=>false:=by
  funext j
  rw [Array.getD_eq_getD_getElem?]
  by_cases h:j < ops.size <;> simp [h]
 rw [e]
 exact h0
end
end Go.Proofs.Ytggmjiddadjilao
namespace Go.Proofs.Ytggmjiddadjilao
open Go.RowKit

/-- whether operation j hangs on operation i -/
def edgeB (ops:Array Oper) (j i:Nat):Bool:=((ops[j]?).map fun o=>o.after.toList.any fun e=>Region.binds .any e && e.on == i).getD false
def Closed (ops:Array Oper) (L:Nat→Bool):Prop:=∀ j i,edgeB ops j i=true→L i=false→L j=false
theorem Closed.next {ops:Array Oper} {L:Nat→Bool} (h:Closed ops L) {k:Nat} {o:Oper} (ho:ops[k]?=some o) (ha:∀ e ∈ o.after,Region.binds .any e=true→L e.on=true):Closed ops (upd L k):=by
 intro j i he hi
 have hik:i ≠ k:=fun e=>by subst e;rw [upd_self] at hi;cases hi
 have hi':L i=false:=by simpa [upd,hik] using hi
 have hj:=h j i he hi'
 have hjk:j ≠ k:=by
  intro e
  subst e
  unfold edgeB at he
  rw [ho] at he
  simp only [Option.map_some,Option.getD_some,List.any_eq_true,Bool.and_eq_true,beq_iff_eq] at he
  obtain ⟨e,he1,he2,he3⟩:=he
  have:=ha e (by simpa using he1) he2
  rw [he3,hi'] at this
  cases this
 simpa [upd,hjk] using hj
theorem wp_region_inv2 {P:Program} {ops:Array Oper} {Q:Exit→Act→World→Prop} (J:(Nat→Bool)→Act→World→Prop) {id:Nat} {a:Act} {w:World} (hm:P.follows .mixedOrders=true) (hord:aheadB ops=true)
  (hs:∀ (L:Nat→Bool) (a:Act) (w:World) (i:Nat) (o:Oper),J L a w→Closed ops L→ops[i]?=some o→L i=false→(∀ e ∈ o.after,Region.binds .any e=true→L e.on=true) →
   ∀ K:Act→World→Prop,(∀ a' w',J (upd L i) a' w'→K a' w')→if Region.wanted o (yielded ops a.tmps)=true then o.wp P a w K Q else K (a.put o.dst undef) w)
  (hd:∀ (L:Nat→Bool) (a:Act) (w:World),J L a w→(∀ i,i < ops.size→L i=true)→Q .normal a w)
  (h0:J (fun _=>false) a w.drew):(Code.region id ops true).wp P Q a w :=
 wp_region_inv (fun L a w=>J L a w∧Closed ops L) hm hord
  (fun L a w i o hJ ho hi ha K hK=>hs L a w i o hJ.1 hJ.2 ho hi ha K (fun a' w' hJ'=>hK a' w' ⟨hJ',hJ.2.next ho ha⟩))
  (fun L a w hJ hall=>hd L a w hJ.1 hall) ⟨h0,fun _ _ _ _=>rfl⟩
end Go.Proofs.Ytggmjiddadjilao
namespace Go.Proofs.Ytggmjiddadjilao
open Go.RowKit

theorem news_flat {α:Type} (f:α→List Value) (sz:Nat) (hf:∀ x,(f x).length=sz) (hz:0 < sz) (l:List α) {w:World} {a:Option Addr} (h:∀ i,(hi:i < l.length)→∃ b off,a=some ⟨b,off,none⟩∧∀ m,m < sz→w.cell? ⟨b,off+i * sz+m,none⟩=(f l[i])[m]?) :
  ∀ p,a=some p→∀ j u,(l.flatMap f)[j]?=some u→w.cell? (p.add j)=some u:=by
 intro p hp j u hj
 have hl:j < l.length * sz:=by rw [← flat_len f sz hf];exact (List.getElem?_eq_some_iff.1 hj).1
 have h1:j / sz < l.length:=(Nat.div_lt_iff_lt_mul hz).2 hl
 have h2:j % sz < sz:=Nat.mod_lt _ hz
 have e:j=j / sz * sz+j % sz:=by rw [Nat.mul_comm];exact (Nat.div_add_mod j sz).symm
 obtain ⟨b,off,ha,hc⟩:=h (j / sz) h1
 have hpe:p=⟨b,off,none⟩:=Option.some.inj (hp.symm.trans ha)
 subst hpe
 have hb:=flat_get f sz hf l (j / sz) h1 (j % sz) h2
 rw [← e,hj] at hb
 have hd:(⟨b,off,none⟩:Addr).add j=⟨b,off+j,none⟩:=by simp [Addr.add]
 rw [hd,show off+j=off+j / sz * sz+j % sz by omega,hc (j % sz) h2,← hb]
theorem one_cols (ps:List (Int × Int)):∀ u ∈ ps.flatMap colVs,u.oneCell'=true:=by
 intro u hu
 obtain ⟨p,_,hp⟩:=List.mem_flatMap.1 hu
 simp only [colVs,List.mem_cons,List.not_mem_nil,or_false] at hp
 rcases hp with rfl | rfl <;> rfl
theorem one_cells (cs:List C):∀ u ∈ cs.flatMap cellVs,u.oneCell'=true:=by
 intro u hu
 obtain ⟨p,_,hp⟩:=List.mem_flatMap.1 hu
 simp only [cellVs,List.mem_cons,List.not_mem_nil,or_false] at hp
 rcases hp with rfl | rfl | rfl | rfl | rfl | rfl | rfl | rfl | rfl | rfl | rfl <;> rfl
theorem at_some {w:World} {z n sz:Nat} {a:Option Addr} {cap:Nat} {E:Nat→Nat→Nat→Prop} (h:At w z (.slice a n cap) n sz E):n ≠ 0→a ≠ none:=by
 intro h0 e
 obtain ⟨a',cap',hv,_,_,h3⟩:=h
 obtain ⟨b,off,ha,_⟩:=h3 0 (by omega)
 simp only [Value.slice.injEq,true_and] at hv
 rw [hv.1,ha] at e
 cases e
theorem clone_cols (a:Option Addr) (cap:Nat) (ps:List (Int × Int)) (hn:ps.length≤1048576) (w:World) {z:Nat} (h:ColsAt w z (.slice a ps.length cap) ps) :
  Calls Try.prog 83 #[.slice a ps.length cap] w fun e w'=>∃ a' c',e=.returned (.slice a' ps.length c')∧OwnCol w' w.heap.size (.slice a' ps.length c') ps∧Below w.heap.size w w':=by
 refine (cloneCol a ps.length cap (ps.flatMap colVs) (flat_len colVs 2 (fun _=>rfl) ps) hn (one_cols ps) (at_some h) w (news_flat colVs 2 (fun _=>rfl) (by decide) ps (fun i hi=>?_))).mono ?_
 ·obtain ⟨b,off,cap',e',_,_,_,h1,h2⟩:=At.get h hi
  simp only [Value.slice.injEq,true_and] at e'
  refine ⟨b,off,e'.1,fun m hm=>?_⟩
  rw [getD_get (0,0) hi] at h1 h2
  match m,hm with
  | 0,_=>exact h1
  | 1,_=>exact h2
 ·rintro e w' ⟨v',rfl,ho,hb⟩
  obtain ⟨a',c',rfl,_⟩:=row_form ho
  exact ⟨a',c',rfl,ho,hb⟩
theorem clone_cells (a:Option Addr) (cap:Nat) (cs:List C) (hn:cs.length≤1048576) (w:World) {z:Nat} (h:CellsAt w z (.slice a cs.length cap) cs) :
  Calls Try.prog 85 #[.slice a cs.length cap] w fun e w'=>∃ a' c',e=.returned (.slice a' cs.length c')∧OwnC w' w.heap.size (.slice a' cs.length c') cs∧Below w.heap.size w w':=by
 refine (cloneCell a cs.length cap (cs.flatMap cellVs) (flat_len cellVs 11 (fun _=>rfl) cs) hn (one_cells cs) (at_some h) w (news_flat cellVs 11 (fun _=>rfl) (by decide) cs (fun i hi=>?_))).mono ?_
 ·obtain ⟨b,off,cap',e',_,_,_,hx,_⟩:=At.get h hi
  simp only [Value.slice.injEq,true_and] at e'
  refine ⟨b,off,e'.1,fun m hm=>?_⟩
  rw [getD_get dC hi] at hx
  obtain ⟨h0,h1,h2,h3,h4,h5,h6,h7,h8,h9,h10⟩:=hx
  match m,hm with
  | 0,_=>exact h0
  | 1,_=>exact h1
  | 2,_=>exact h2
  | 3,_=>exact h3
  | 4,_=>exact h4
  | 5,_=>exact h5
  | 6,_=>exact h6
  | 7,_=>exact h7
  | 8,_=>exact h8
  | 9,_=>exact h9
  | 10,_=>exact h10
 ·rintro e w' ⟨v',rfl,ho,hb⟩
  obtain ⟨a',c',rfl,_⟩:=row_form ho
  exact ⟨a',c',rfl,ho,hb⟩
/-- the rows of a table, each with the slice of its cells -/
theorem rows_list {w:World} {z:Nat} {a:Option Addr} {cap:Nat} {rs:List R} (h:RowsAt w z (.slice a rs.length cap) rs):∃ us:List Value,us.length=rs.length∧∀ i,(hi:i < rs.length)→∃ b off u,a=some ⟨b,off,none⟩∧us[i]?=some u∧w.cell? ⟨b,off+i * 2,none⟩=some u∧w.cell? ⟨b,off+i * 2+1,none⟩=some (.bool rs[i].whole)∧(∃ au cu,u=.slice au rs[i].cells.length cu):=by
 suffices H:∀ k,k≤rs.length→∃ us:List Value,us.length=k∧∀ i,i < k→∀ hi:i < rs.length,∃ b off u,a=some ⟨b,off,none⟩∧us[i]?=some u∧w.cell? ⟨b,off+i * 2,none⟩=some u∧w.cell? ⟨b,off+i * 2+1,none⟩=some (.bool rs[i].whole)∧(∃ au cu,u=.slice au rs[i].cells.length cu) by
  obtain ⟨us,h1,h2⟩:=H rs.length (Nat.le_refl _)
  exact ⟨us,h1,fun i hi=>h2 i hi hi⟩
 intro k
 induction k with
 | zero=>intro _;exact ⟨[],rfl,fun i hi=>absurd hi (Nat.not_lt_zero _)⟩
 | succ k ih =>
  intro hk
  obtain ⟨us,h1,h2⟩:=ih (by omega)
  obtain ⟨b,off,cap',e',_,_,_,u,hx0,hx1,hx⟩:=At.get h (i:=k) (by omega)
  simp only [Value.slice.injEq,true_and] at e'
  rw [getD_get dR (by omega:k < rs.length)] at hx1 hx
  obtain ⟨au,cu,rfl,_⟩:=At.form hx
  refine ⟨us ++ [.slice au rs[k].cells.length cu],by simp [h1],fun i hi hir=>?_⟩
  rcases Nat.lt_or_eq_of_le (Nat.lt_succ_iff.1 hi) with hl | rfl
  ·obtain ⟨b',off',u',p1,p2,p3,p4,p5⟩:=h2 i hl hir
   exact ⟨b',off',u',p1,by rw [List.getElem?_append_left (by omega)];exact p2,p3,p4,p5⟩
  ·exact ⟨b,off,_,e'.1,by rw [List.getElem?_append_right (by omega),h1];simp,hx0,hx1,⟨au,cu,rfl⟩⟩
def rowsV (us:List Value) (rs:List R):List Value:=(us.zip rs).flatMap rowVs
theorem clone_rows (a:Option Addr) (cap:Nat) (rs:List R) (hn:rs.length≤1048576) (w:World) {z:Nat} (h:RowsAt w z (.slice a rs.length cap) rs) :
  Calls Try.prog 84 #[.slice a rs.length cap] w fun e w'=>∃ us a' c',us.length=rs.length∧e=.returned (.slice a' rs.length c')∧w'.ownsRow w.heap.size 88 2 (.slice a' rs.length c') rs.length (rowsV us rs)∧Below w.heap.size w w':=by
 obtain ⟨us,hu,hg⟩:=rows_list h
 have hz:(us.zip rs).length=rs.length:=by rw [List.length_zip,hu,Nat.min_self]
 have hl:(rowsV us rs).length=rs.length * 2:=by rw [rowsV,flat_len rowVs 2 (fun _=>rfl),hz]
 have hone:∀ u ∈ rowsV us rs,u.oneCell'=true:=by
  intro u hm
  obtain ⟨p,hp,hq⟩:=List.mem_flatMap.1 hm
  obtain ⟨i,hi,rfl⟩:=List.mem_iff_getElem.1 hp
  rw [hz] at hi
  obtain ⟨b,off,u',_,p2,_,_,au,cu,rfl⟩:=hg i hi
  have e:us[i]'(by omega)=.slice au rs[i].cells.length cu:=by rw [List.getElem?_eq_getElem (by omega)] at p2;exact Option.some.inj p2
  rw [List.getElem_zip,rowVs,e] at hq
  simp only [List.mem_cons,List.not_mem_nil,or_false] at hq
  rcases hq with rfl | rfl <;> rfl
 refine (cloneRow a rs.length cap (rowsV us rs) hl hn hone (at_some h) w (news_flat rowVs 2 (fun _=>rfl) (by decide) (us.zip rs) (fun i hi=>?_))).mono ?_
 ·rw [hz] at hi
  obtain ⟨b,off,u',p1,p2,p3,p4,_⟩:=hg i hi
  have e:us[i]'(by omega)=u':=by rw [List.getElem?_eq_getElem (by omega)] at p2;exact Option.some.inj p2
  refine ⟨b,off,p1,fun m hm=>?_⟩
  rw [List.getElem_zip,e]
  match m,hm with
  | 0,_=>exact p3
  | 1,_=>exact p4
 ·rintro e w' ⟨v',rfl,ho,hb⟩
  obtain ⟨a',c',rfl,_⟩:=row_form ho
  exact ⟨us,a',c',hu,rfl,ho,hb⟩
end Go.Proofs.Ytggmjiddadjilao
namespace Go.Proofs.Ytggmjiddadjilao
open Go.RowKit

theorem run_append_none {P:Program} {w:World} (base:Nat) (t ty e:TypeId) (i:TypeInfo) (size c:Nat) (ht:P.underlying t=some (.slice e)) (hi:P.info? e=some i)
  (v:Value) (n:Nat) (xs:List Value) (hown:w.ownsRow base e size v n xs):(Builtin.append_ #[t,t] ty #[v,.slice none 0 c]).run P w=.ok v w:=by
 rcases hown.2 with ⟨rfl,rfl⟩ | ⟨g,cap,cur,rfl,_,_,hnc,_⟩
 ·simp [Builtin.append_,run_underlying ht,sizeOf,typeInfo,hi,Builtin.lenOf,Builtin.firstCells]
 ·simp [Builtin.append_,run_underlying ht,sizeOf,typeInfo,hi,Builtin.lenOf,Builtin.firstCells,hnc,storeCells]
theorem wp_append_src {P:Program} (w:World) {o:Oper} {a:Act} {K:Act→World→Prop} {Q:Exit→Act→World→Prop} (s x:Operand) (t:TypeId)
  (ho:o.op=.call { callee:=.builtin .append,args:=#[s,x],argTypes:=#[t,t] })
  (base:Nat) (e:TypeId) (i:TypeInfo) (z:Value) (size bytes:Nat) (ht:P.underlying t=some (.slice e)) (hi:P.info? e=some i) (hz:i.zero=some z)
  (hsize:i.size=size) (hby:i.bytes=bytes) (hzs:z.cells.size=size) (hsz:0 < size)
  (v:Value) (n:Nat) (xs:List Value) (hs:a.eval s=v) (hown:w.ownsRow base e size v n xs)
  (ad:Option Addr) (m c:Nat) (news:List Value) (hx:a.eval x=.slice ad m c) (hm:m ≠ 0→ad ≠ none) (hl:news.length=m * size) (hnews:∀ p,ad=some p→∀ j u,news[j]?=some u→w.cell? (p.add j)=some u) (h1:∀ u ∈ news,u.oneCell'=true)
  (h63:n+m≤maxLen) (hbytes:(n+m) * bytes≤140737488355328) (hbase:base≤w.heap.size)
  (h:∀ v' w',w'.ownsRow base e size v' (n+m) (xs ++ news)→w.grownBy w' v.ownBlock→K (a.put o.dst v') w'):o.wp P a w K Q:=by
 rcases ad with _ | p
 ·obtain rfl:m=0:=by
   rcases Nat.eq_zero_or_pos m with h0 | h0
   ·exact h0
   ·exact absurd rfl (hm (by omega))
  obtain rfl:news=[]:=List.length_eq_zero_iff.1 (by omega)
  have hr:=run_append_none (P:=P) (w:=w) base t o.type e i size c ht hi v n xs hown
  unfold Oper.wp execOp
  simp only [ho,resolve,invoke,builtin,Sem.run_bind,Sem.run_pure,Result.andThen_ok,List.map_toArray,List.map_cons,List.map_nil,hs,hx,hr]
  exact h v w (by simpa using hown) ⟨rfl,rfl,rfl,Nat.le_refl _,fun _ _ _=>rfl⟩
 ·exact wp_append_own w s x t ho base e i z size bytes ht hi hz hsize hby hzs hsz v n xs hs hown p m c news hx hl (hnews p rfl) h1 h63 hbytes hbase (fun v' w' h1 h2 _=>h v' w' h1 h2)
/-- rows that are owned, and one more -/
theorem OwnR.push {w w':World} {B:Nat} {U v':Value} {ur:List (Value × R)} (h:OwnR w B U ur) (k:w.grownBy w' U.ownBlock) {u:Value} {r:R} (hO:w'.ownsRow B 88 2 v' (ur.length+1) (ur.flatMap rowVs ++ rowVs (u,r))) (hu:OwnC w B u r.cells) (ha:∀ p ∈ ur,p.1.ownBlock=none∨p.1.ownBlock ≠ u.ownBlock):OwnR w' B v' (ur ++ [(u,r)]):=by
 have hnn:∀ u:Value,u.ownBlock=none∨u.ownBlock ≠ none:=fun u=>by rcases hb:u.ownBlock with _ | b;exact .inl rfl;exact .inr (by simp)
 have K1:Off 0 none U.ownBlock w w':=Off.grown k
 refine ⟨by simpa [List.flatMap_append] using hO,fun p hp=>?_,?_⟩
 ·rcases List.mem_append.1 hp with hp | hp
  ·exact row_off (h.cells p hp) K1 (Nat.zero_le _) (hnn _) (row_ne (h.cells p hp) h.own (by decide))
  ·rw [List.mem_singleton] at hp
   subst hp
   exact row_off hu K1 (Nat.zero_le _) (hnn _) (row_ne hu h.own (by decide))
 ·rw [List.pairwise_append]
  refine ⟨h.apart,List.pairwise_singleton _ _,fun p hp q hq=>?_⟩
  rw [List.mem_singleton] at hq
  subst hq
  exact ha p hp
theorem OwnR.kept {w w':World} {B:Nat} {U:Value} {ur:List (Value × R)} (h:OwnR w B U ur) (k:Below w.heap.size w w'):OwnR w' B U ur:=h.since (.of_below k)
theorem news_cols {w:World} {z:Nat} {a:Option Addr} {cap:Nat} {ps:List (Int × Int)} (h:ColsAt w z (.slice a ps.length cap) ps):∀ p,a=some p→∀ j u,(ps.flatMap colVs)[j]?=some u→w.cell? (p.add j)=some u:=by
 refine news_flat colVs 2 (fun _=>rfl) (by decide) ps (fun i hi=>?_)
 obtain ⟨b,off,cap',e',_,_,_,h1,h2⟩:=At.get h hi
 simp only [Value.slice.injEq,true_and] at e'
 refine ⟨b,off,e'.1,fun m hm=>?_⟩
 rw [getD_get (0,0) hi] at h1 h2
 match m,hm with
 | 0,_=>exact h1
 | 1,_=>exact h2
theorem news_cells {w:World} {z:Nat} {a:Option Addr} {cap:Nat} {cs:List C} (h:CellsAt w z (.slice a cs.length cap) cs):∀ p,a=some p→∀ j u,(cs.flatMap cellVs)[j]?=some u→w.cell? (p.add j)=some u:=by
 refine news_flat cellVs 11 (fun _=>rfl) (by decide) cs (fun i hi=>?_)
 obtain ⟨b,off,cap',e',_,_,_,hx,_⟩:=At.get h hi
 simp only [Value.slice.injEq,true_and] at e'
 refine ⟨b,off,e'.1,fun m hm=>?_⟩
 rw [getD_get dC hi] at hx
 obtain ⟨h0,h1,h2,h3,h4,h5,h6,h7,h8,h9,h10⟩:=hx
 match m,hm with
 | 0,_=>exact h0
 | 1,_=>exact h1
 | 2,_=>exact h2
 | 3,_=>exact h3
 | 4,_=>exact h4
 | 5,_=>exact h5
 | 6,_=>exact h6
 | 7,_=>exact h7
 | 8,_=>exact h8
 | 9,_=>exact h9
 | 10,_=>exact h10
theorem row_alloc {w:World} {base:Nat} {e:TypeId} {sz:Nat} {v:Value} {m:Nat} {xs:List Value} (h:w.ownsRow base e sz v m xs) (o:Obj):(w.alloc o).ownsRow base e sz v m xs:=row_since h (.of_below (k_alloc (Below.refl _ _) o))
theorem grown_block {w w':World} {base:Nat} {e e':TypeId} {sz:Nat} {v:Value} {m:Nat} {xs:List Value} (h:w.ownsRow base e sz v m xs) (k:w.grownBy w' v.ownBlock) {g:Nat} {cur:Array Value} (hg:w.heap[g]?=some (.cells cur e')) (he:e ≠ e'):w'.heap[g]?=some (.cells cur e'):=by
 refine (k.block g (Array.getElem?_eq_some_iff.1 hg).1 (fun e1=>?_)).trans hg
 rcases row_ne_block h hg he with h4 | h4
 ·rw [h4] at e1;cases e1
 ·exact h4 e1.symm
end Go.Proofs.Ytggmjiddadjilao
namespace Go.Proofs.Ytggmjiddadjilao
open Go.RowKit

theorem alloc_at {w:World} {k:Nat} {o q:Obj} (h:w.heap[k]?=some q):(w.alloc o).heap[k]?=some q:=(Below.heap_alloc w o k (Array.getElem?_eq_some_iff.1 h).1).trans h
theorem alloc_new {w:World} {o:Obj} {k:Nat} (h:w.heap.size=k):(w.alloc o).heap[k]?=some o:=by subst h;exact newestB w o
end Go.Proofs.Ytggmjiddadjilao
