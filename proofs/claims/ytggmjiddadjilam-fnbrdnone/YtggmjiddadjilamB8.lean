/-
  PROVED HERE: a region that draws its order, by a fact that each operation keeps, whatever was carried out ahead of it. Also: 3 more texts of the same proof.
-/
import Derived.Test.YtggmjiddadjilamB7
import Derived.Deep.RegionWith
set_option maxRecDepth 1000000
set_option maxHeartbeats 40000000
namespace Go.Proofs.Ytggmjiddadjilam
section
open Go.RowKit
def upd (L:Nat→Bool) (i:Nat):Nat→Bool:=fun j=>if j=i then true else L j
theorem za {L:Nat→Bool} {i j:Nat} (h:(j == i)=false):upd L i j=L j:=by
 unfold upd;rw [if_neg (fun e=>by rw [e] at h;simp at h)]
theorem un {L:Nat→Bool} {i j:Nat} {b:Bool} (h:upd L i j=b) (e:(j == i)=false:=by rfl):L j=b:=by rwa [za e] at h
theorem uq {L:Nat→Bool} {i j:Nat} {b:Bool} {P:Prop} (f:L j=b→P) (e:(j == i)=false:=by rfl):upd L i j=b→P:=fun h=>f (un h e)
theorem uf {L:Nat→Bool} {i j:Nat} {P:Prop} (h0:L j=false) (e:(j == i)=false:=by rfl):upd L i j=true→P:=fun h=>absurd (un h e) (by rw [h0];simp)
theorem ub {L:Nat→Bool} {i j a:Nat} {Q X:Nat→Prop} (f:L j=true→∃ g,Q g∧(L a=false→X g)) (e:(j == i)=false:=by rfl) (e2:(a == i)=false:=by rfl):upd L i j=true→∃ g,Q g∧(upd L i a=false→X g):=fun h=>(f (un h e)).elim (fun g hg=>⟨g,hg.1,fun h2=>hg.2 (un h2 e2)⟩)
theorem zH {L:Nat→Bool} {i:Nat}:upd L i i=true:=by simp [upd]
def z3d (ops:Array Oper):Bool:=(List.range ops.size).all fun i=>((ops[i]?).map fun o=>o.after.all fun e=>!Region.binds .any e || decide (e.on < i)).getD true
theorem z5I {ops:Array Oper} (h:z3d ops=true) {listed:Array Bool} (hs:listed.size=ops.size) (hr:Region.ready .any ops listed=[]):∀ i,i < ops.size→listed.getD i false=true:=by
 intro i
 induction i using Nat.strongRecOn with
 | ind i ih =>
  intro hi
  cases hl:listed.getD i false with
  | true=>rfl
  | false =>
   exfalso
   have ho:ops[i]?=some ops[i]:=Array.getElem?_eq_getElem hi;have h1:=List.all_eq_true.1 h i (List.mem_range.2 hi);rw [ho] at h1;simp only [Option.map_some,Option.getD_some] at h1
   have hm:i ∈ Region.ready .any ops listed:=by
    unfold Region.ready;rw [List.mem_filter];refine ⟨List.mem_range.2 hi,?_⟩
    have h2:listed.getD i true=false:=by
     rw [Array.getD_eq_getD_getElem?,Array.getElem?_eq_getElem (by omega)] at hl ⊢;exact hl
    rw [h2,ho];simp only [Bool.not_false,Bool.true_and,Option.map_some,Option.getD_some];rw [Array.all_eq_true_iff_forall_mem];intro e he;have h3:=Array.all_eq_true_iff_forall_mem.1 h1 e he
    cases hbn:Region.binds .any e with
    | false=>simp
    | true =>
     rw [hbn] at h3;have h4:e.on < i:=(by simpa using h3);rw [ih e.on h4 (by omega)];simp
   rw [hr] at hm
   cases hm
theorem z3e {listed:Array Bool} {i:Nat} (hi:i < listed.size):(fun j=>(listed.setIfInBounds i true).getD j false)=upd (fun j=>listed.getD j false) i:=by
 funext j
 unfold upd;rw [Array.getD_eq_getD_getElem?];by_cases h:j=i
 ·subst h;simp [hi]
 ·rw [if_neg h,Array.getElem?_setIfInBounds_ne (Ne.symm h)];exact (Array.getD_eq_getD_getElem? ..).symm
theorem z5J {l:List Bool} {i:Nat} (h:l[i]?=some false):(l.set i true).count false+1=l.count false:=by
 induction l generalizing i with
 | nil=>simp at h
 | cons a t ih =>
  cases i with
  | zero=>simp at h;subst h;simp
  | succ i =>
   simp at h;have:=ih h;rw [List.set_cons_succ,List.count_cons,List.count_cons];omega
section
variable {P:Program} {ops:Array Oper} {Q:Exit→Act→World→Prop} (J:(Nat→Bool)→Act→World→Prop)
theorem z5K (hord:z3d ops=true)
  (hs:∀ (L:Nat→Bool) (a:Act) (w:World) (i:Nat) (o:Oper),J L a w→ops[i]?=some o→L i=false→(∀ e ∈ o.after,Region.binds .any e=true→L e.on=true) →
   ∀ K:Act→World→Prop,(∀ a' w',J (upd L i) a' w'→K a' w')→if Region.wanted o (yielded ops a.tmps)=true then o.wp P a w K Q else K (a.put o.dst undef) w)
  (hd:∀ (L:Nat→Bool) (a:Act) (w:World),J L a w→(∀ i,i < ops.size→L i=true)→Q .normal a w) :
  ∀ (fuel:Nat) (listed:Array Bool) (a:Act) (w:World),listed.size=ops.size→listed.toList.count false≤fuel→J (fun j=>listed.getD j false) a w→wpAny P .any ops Q fuel listed a w:=by
 intro fuel
 induction fuel with
 | zero =>
  intro listed a w hsz hc hJ
  have hall:∀ i,i < ops.size→listed.getD i false=true:=by
   intro i hi;have h0:listed.toList.count false=0:=(by omega);have hi':i < listed.size:=(by omega);have:=List.count_eq_zero.1 h0;have hm:listed[i] ∈ listed.toList:=(by simp);rw [Array.getD_eq_getD_getElem?,Array.getElem?_eq_getElem hi',Option.getD_some]
   cases hv:listed[i] with
   | true=>rfl
   | false=>rw [hv] at hm;exact absurd hm this
  refine ⟨?_,hd _ _ _ hJ hall⟩;unfold Region.ready;rw [List.filter_eq_nil_iff];intro i hi;have hi2:=List.mem_range.1 hi;have:=hall i hi2
  have h3:listed.getD i true=true:=by
   rw [Array.getD_eq_getD_getElem?,Array.getElem?_eq_getElem (by omega)] at this ⊢;exact this
  rw [h3];simp
 | succ fuel ih =>
  intro listed a w hsz hc hJ;refine ⟨fun hr=>hd _ _ _ hJ (z5I hord hsz hr),fun i hi=>?_⟩;unfold Region.ready at hi;rw [List.mem_filter] at hi;obtain ⟨h1,h2⟩:=hi;have hlt:=List.mem_range.1 h1;have ho:ops[i]?=some ops[i]:=Array.getElem?_eq_getElem hlt;rw [ho] at h2;simp only [Option.map_some,Option.getD_some,Bool.and_eq_true] at h2;obtain ⟨h3,h4⟩:=h2;have hil:i < listed.size:=(by omega)
  have hv:listed[i]=false:=by
   rw [Array.getD_eq_getD_getElem?,Array.getElem?_eq_getElem hil] at h3
   simpa using h3
  have hfi:listed.getD i false=false:=(by rw [Array.getD_eq_getD_getElem?,Array.getElem?_eq_getElem hil,hv];rfl)
  have hstep:=hs _ a w i ops[i] hJ ho hfi (fun e he hb=>by
   have:=Array.all_eq_true_iff_forall_mem.1 h4 e he;rw [hb] at this
   simpa using this) (wpAny P .any ops Q fuel (listed.setIfInBounds i true)) (fun a' w' hJ'=>ih _ a' w' (by simpa using hsz) (by
    have:=z5J (l:=listed.toList) (i:=i) (by rw [Array.getElem?_toList,Array.getElem?_eq_getElem hil,hv]);rw [Array.toList_setIfInBounds]
    omega) (by rw [z3e hil];exact hJ'))
  unfold wpOp;rw [ho];dsimp only
  split
  ·rename_i hw;rw [if_pos hw] at hstep;exact .inl hstep
  ·rename_i hw;rw [if_neg hw] at hstep;exact hstep
theorem z2w {id:Nat} {a:Act} {w:World} (hm:P.follows .mixedOrders=true) (hord:z3d ops=true)
  (hs:∀ (L:Nat→Bool) (a:Act) (w:World) (i:Nat) (o:Oper),J L a w→ops[i]?=some o→L i=false→(∀ e ∈ o.after,Region.binds .any e=true→L e.on=true) →
   ∀ K:Act→World→Prop,(∀ a' w',J (upd L i) a' w'→K a' w')→if Region.wanted o (yielded ops a.tmps)=true then o.wp P a w K Q else K (a.put o.dst undef) w)
  (hd:∀ (L:Nat→Bool) (a:Act) (w:World),J L a w→(∀ i,i < ops.size→L i=true)→Q .normal a w)
  (h0:J (fun _=>false) a w.drew):(Code.region id ops true).wp P Q a w:=by
 refine wp_region_any hm (z5K J hord hs hd _ _ _ _ (by simp) (by simp) ?_)
 have e:(fun j=>(Array.replicate ops.size false).getD j false)=fun _=>false:=by
  funext j
  rw [Array.getD_eq_getD_getElem?];by_cases h:j < ops.size <;> simp [h]
 rw [e];exact h0
end
end
section
open Go.RowKit
def Hp (n0:Nat) (w:World) (g:Nat) (o:Obj):Prop:=n0≤g∧w.heap[g]?=some o
theorem Hp.lt {n0 g:Nat} {w:World} {o:Obj} (h:Hp n0 w g o):g < w.heap.size:=(bL h.2)
theorem Hp.bk {n0 g r:Nat} {w w':World} {o:Obj} (h:Hp n0 w g o) (hr:r < n0) (k:Bk r w w'):Hp n0 w' g o:=⟨h.1,(k.block g h.lt (by have:=h.1;omega)).trans h.2⟩
theorem Hp.alloc {n0 g:Nat} {w:World} {o:Obj} (h:Hp n0 w g o) (q:Obj):Hp n0 (w.alloc q) g o:=⟨h.1,(Below.heap_alloc _ _ _ h.lt).trans h.2⟩
theorem Hp.new {n0:Nat} {w:World} (h:n0≤w.heap.size) (q:Obj):Hp n0 (w.alloc q) w.heap.size q:=⟨h,by show (w.heap.push q)[w.heap.size]?=_;simp⟩
def PI (lo hi:Int) (u:Value):Prop:=∃ k:Int,u=.int .i64 k∧lo≤k∧k≤hi
def PS (n:Nat) (u:Value):Prop:=∃ s:ByteArray,u=.string s∧s.size≤n
def PL (n0:Nat) (w:World) (n:Nat) (arr:Array Value) (u:Value):Prop:=∃ g,u=.slice (some ⟨g,0,none⟩) n n∧Hp n0 w g (.cells arr 3)
def PA (n0:Nat) (w:World) (lo hi:Int) (u:Value):Prop:=∃ g k arr,u=.pointer (some ⟨g,k,none⟩)∧Hp n0 w g (.cells arr 3)∧∃ v:Int,arr[k]?=some (.int .i64 v)∧lo≤v∧v≤hi
theorem PL.bk {n0 n r:Nat} {w w':World} {arr:Array Value} {u:Value} (h:PL n0 w n arr u) (hr:r < n0) (k:Bk r w w'):PL n0 w' n arr u:=by
 obtain ⟨g,e,hg⟩:=h;exact ⟨g,e,hg.bk hr k⟩
theorem PA.bk {n0 r:Nat} {w w':World} {lo hi:Int} {u:Value} (h:PA n0 w lo hi u) (hr:r < n0) (k:Bk r w w'):PA n0 w' lo hi u:=by
 obtain ⟨g,k',arr,e,hg,hv⟩:=h;exact ⟨g,k',arr,e,hg.bk hr k,hv⟩
theorem zi (r:Nat) (w:World) (o:Obj):Bk r w (w.alloc o):=(Bk.refl r w).alloc o
theorem z6d (s0 s1 s2 s3 s4 s5 s6:ByteArray) (n:Nat) (h:s0.size≤n∧s1.size≤n∧s2.size≤n∧s3.size≤n∧s4.size≤n∧s5.size≤n∧s6.size≤n) (k:Int) (h0:0≤k) (h1:k < 7) :
  ∃ v:ByteArray,v.size≤n∧(#[Value.string s0,.string s1,.string s2,.string s3,.string s4,.string s5,.string s6]:Array Value)[k.toNat]?=some (.string v)∧∀ h,([Value.string s0,.string s1,.string s2,.string s3,.string s4,.string s5,.string s6]:List Value)[k.toNat]'h=.string v:=by
 rcases (by omega:k=0∨k=1∨k=2∨k=3∨k=4∨k=5∨k=6) with rfl | rfl | rfl | rfl | rfl | rfl | rfl
 ·exact ⟨s0,h.1,rfl,fun _=>rfl⟩
 ·exact ⟨s1,h.2.1,rfl,fun _=>rfl⟩
 ·exact ⟨s2,h.2.2.1,rfl,fun _=>rfl⟩
 ·exact ⟨s3,h.2.2.2.1,rfl,fun _=>rfl⟩
 ·exact ⟨s4,h.2.2.2.2.1,rfl,fun _=>rfl⟩
 ·exact ⟨s5,h.2.2.2.2.2.1,rfl,fun _=>rfl⟩
 ·exact ⟨s6,h.2.2.2.2.2.2,rfl,fun _=>rfl⟩
theorem z5L {s:ByteArray} (h:s.size=0):s.toList=[]:=by
 rw [Lib.toList_data];exact List.eq_nil_of_length_eq_zero (by simpa using h)
theorem z6K {s:ByteArray} (h:s.toList=[]):s.size=0:=by
 rw [Lib.toList_data] at h;have:=congrArg List.length h;simpa using this
theorem z57 {s v:ByteArray} {q:Nat} (hs:s.size≤30) (hq:q≤s.size) (hv:v.size≤31):(s.extract 0 q ++ v ++ s.extract q s.size).size≤61:=by
 rw [ByteArray.size_append,ByteArray.size_append,ByteArray.size_extract,ByteArray.size_extract];omega
theorem z4P (w:World) (q:Obj):(w.alloc q).heap[w.heap.size]?=some q:=by show (w.heap.push q)[w.heap.size]?=_;simp
def z2L (w:World) (g:Nat):Prop:=w.heap[g]?=some (.cells #[.string ⟨#[97]⟩,.string ⟨#[97,110]⟩,.string ⟨#[116,104,101]⟩,.string ⟨#[111,118,101,114]⟩,.string ⟨#[117,110,100,101,114]⟩,.string ⟨#[109,101,97,100,111,119]⟩,.string ⟨#[108,105,103,104,116,104,111,117,115,101]⟩] 9)
theorem z2V (r B:Nat) (w:World) (h:Rd w r B) (hB:B≤900000) :
  Calls Try.prog 66 #[.pointer (some ⟨r,0,none⟩)] w fun e w'=>∃ s:ByteArray,e=.returned (.string s)∧s.size≤30∧Rd w' r (B+6)∧Bk r w w':=by
 have hlt:=h.lt;have hr0:w.heap.size ≠ r:=(by omega);have HR:Hid (Rd w r B):=h;clear h;go_enter Try.func66,Try.ntmps66;go_wp2_with fail
 refine (zk r B _ _ (Rd.alloc HR.out _) (by omega)).mono ?_;rintro e w1 ⟨k1,rfl,hk1,hR1,hb1⟩;obtain ⟨hk1a,hk1b⟩:=hk1 (by omega);have hz1:=hb1.size;simp at hz1;have W1:=Hd ((hb1.block w.heap.size (by simp) hr0).trans (z4P _ _));have HR1:Hid (Rd w1 r (B+1)):=hR1;have HB1:Hid (Bk r w w1):=Bk.trans (Bk.alloc (Bk.refl r w) _) hb1;clear hk1 hR1 hb1;have HW1:Hid (z2L w1 w.heap.size):=W1.out;obtain ⟨q1,rfl⟩:=Int.eq_ofNat_of_zero_le hk1a;clear W1;go_wp2_with fail
 go_loopw [4,5,6] (fun s k _ W=>∃ (t:ByteArray) (q:Nat),s=.string t∧k=.int .i64 q∧t.size≤30∧q≤5∧w.heap.size+1≤W.heap.size∧Hid (Rd W r (B+6 - q))∧Hid (Bk r w W)∧Hid (z2L W w.heap.size)) (fun _ k _ _=>(intOf k).toNat)
 case atStart=>exact ⟨_,q1,rfl,rfl,by decide,by omega,by omega,Rd.mono HR1.out (by omega),HB1,HW1⟩
 case round =>
  obtain ⟨t,q,rfl,rfl,ht,hq,hsz,HRr,HBr,HWr⟩:=hrel;by_cases hq0:q=0
  ·subst hq0;go_wp2;go_ret;exact ⟨t,rfl,ht,HRr.out,HBr.out⟩
  ·have hq1:(0:Int) < (q:Int):=(by omega);go_wp2_with fail
   refine (zk r (B+6 - q) _ _ HRr.out (by omega)).mono ?_;rintro e w2 ⟨k2,rfl,hk2,hR2,hb2⟩;obtain ⟨hk2a,hk2b⟩:=hk2 (by omega);have W2:z2L w2 w.heap.size:=(hb2.block w.heap.size (by omega) hr0).trans HWr.out;obtain ⟨v,hv,hl,_⟩:=z6d ⟨#[97]⟩ ⟨#[97,110]⟩ ⟨#[116,104,101]⟩ ⟨#[111,118,101,114]⟩ ⟨#[117,110,100,101,114]⟩ ⟨#[109,101,97,100,111,119]⟩ ⟨#[108,105,103,104,116,104,111,117,115,101]⟩ 10 (by decide) k2 hk2a hk2b;have hcv:w2.cell? ⟨w.heap.size,k2.toNat,none⟩=some (.string v):=(Joins.cell_of_block W2 _).trans hl;have HW2:Hid (z2L w2 w.heap.size):=W2;have HR2:Hid (Rd w2 r (B+6 - (q - 1))):=Rd.mono hR2 (by omega);have HB2:Hid (Bk r w w2):=Bk.trans HBr.out hb2;have hz2:w.heap.size+1≤w2.heap.size:=(by have:=hb2.size;omega);clear hk2 hR2 hb2 W2 hl HRr HBr HWr;by_cases h0:t.size=0
   ·have he:t.toList=[]:=z5L h0;go_wp2;go_roundw
    case rel=>exact ⟨v,q - 1,rfl,by go_num,by omega,by omega,hz2,HR2,HB2,HW2⟩
    case measure=>simp [intOf];omega
   ·have he:¬ t.toList=[]:=fun h=>h0 (z6K h);have he2:t.toList.isEmpty=false:=(by simpa using he);by_cases h30:t.size+1+v.size≤30
    ·have h30':(t.size:Int)+1+(v.size:Int)≤30:=(by omega);go_wp2;go_roundw
     case rel=>exact ⟨_,q - 1,rfl,by go_num,by rw [ByteArray.size_append,ByteArray.size_append];have:(ByteArray.mk #[32]).size=1:=rfl;omega,by omega,hz2,HR2,HB2,HW2⟩
     case measure=>simp [intOf];omega
    ·have h30':¬ (t.size:Int)+1+(v.size:Int)≤30:=(by omega);go_wp2;go_roundw
     case rel=>exact ⟨t,q - 1,rfl,by go_num,ht,by omega,hz2,HR2,HB2,HW2⟩
     case measure=>simp [intOf];omega
theorem z2i (r B:Nat) (n:Int) (hn:1≤n) (w:World) (h:Rd w r B) (hB:B≤800000) :
  Calls Try.prog 31 #[.pointer (some ⟨r,0,none⟩),.int .i64 n] w fun e w'=>∃ s:ByteArray,e=.returned (.string s)∧s.size≤61∧Rd w' r (B+9)∧Bk r w w':=by
 have hlt:=h.lt;have HR:Hid (Rd w r B):=h;clear h;go_enter Try.func31,Try.ntmps31;go_wp2_with fail
 refine (z2V r B _ HR.out (by omega)).mono ?_;rintro e w1 ⟨s,rfl,hs,hR1,hb1⟩;have HR1:=Hd hR1;have HB1:=Hd hb1;have hz1:=hb1.size;clear hR1 hb1;go_wp2_with fail
 refine (zk r (B+6) _ _ HR1.out (by omega)).mono ?_;rintro e w2 ⟨k2,rfl,hk2,hR2,hb2⟩;obtain ⟨hk2a,hk2b⟩:=hk2 (by omega);have HR2:=Hd hR2;have HB2:=Hd (Bk.trans HB1.out hb2);have hz2:=hb2.size;clear hR2 hb2 hk2 HR1 HB1;by_cases h2:0 < k2
 ·go_wp2;go_ret;exact ⟨s,rfl,by omega,Rd.mono HR2.out (by omega),HB2.out⟩
 ·go_wp2_with fail
  refine (zk r (B+7) _ _ HR2.out (by omega)).mono ?_;rintro e w3 ⟨k3,rfl,hk3,hR3,hb3⟩;obtain ⟨hk3a,hk3b⟩:=hk3 (by omega);obtain ⟨q,rfl⟩:=Int.eq_ofNat_of_zero_le hk3a;have HR3:=Hd hR3;have HB3:=Hd (Bk.trans HB2.out hb3);have hz3:=hb3.size;clear hR3 hb3 hk3 HR2 HB2;have hq:(q:Int)≤(s.size:Int):=(by omega);have hq':q≤s.size:=(by omega);go_wp2_with fail
  have hlr:w3.heap.size ≠ r:=(by omega)
  go_region_with (first
   | (go_at_call 32;refine (zk r (B+8) _ _ (Rd.drew (Rd.alloc HR3.out _)) (by omega)).mono ?_;rintro e w4 ⟨k4,rfl,hk4,hR4,hb4⟩;obtain ⟨hk4a,hk4b⟩:=hk4 (by omega);obtain ⟨v,hv,hl,_⟩:=z6d ⟨#[32]⟩ ⟨#[32,32]⟩ ⟨#[65]⟩ ⟨#[49]⟩ ⟨#[45]⟩ ⟨#[0]⟩ ⟨#[97,98,99,100,101,102,103,104,105,106,97,98,99,100,101,102,103,104,105,106,97,98,99,100,101,102,103,104,105,106,120]⟩ 31 (by decide) k4 hk4a hk4b;have hcv:w4.cell? ⟨w3.heap.size,k4.toNat,none⟩=some (.string v):=(Joins.cell_of_block ((hb4.block w3.heap.size (by simp) hlr).trans (z4P _ _)) _).trans hl;have HR4:=Hd hR4;have HB4:=Hd (Bk.trans (Bk.drew (Bk.alloc HB3.out _)) hb4);clear hk4 hR4 hb4 hl)
   | (go_at_call 32;refine (zk r (B+8) _ _ (Rd.drew HR3.out) (by omega)).mono ?_;rintro e w4 ⟨k4,rfl,hk4,hR4,hb4⟩;obtain ⟨hk4a,hk4b⟩:=hk4 (by omega);obtain ⟨v,hv,hl,hge⟩:=z6d ⟨#[32]⟩ ⟨#[32,32]⟩ ⟨#[65]⟩ ⟨#[49]⟩ ⟨#[45]⟩ ⟨#[0]⟩ ⟨#[97,98,99,100,101,102,103,104,105,106,97,98,99,100,101,102,103,104,105,106,97,98,99,100,101,102,103,104,105,106,120]⟩ 31 (by decide) k4 hk4a hk4b;have HR4:=Hd hR4;have HB4:=Hd (Bk.trans (Bk.drew HB3.out) hb4);clear hk4 hR4 hb4 hl))
  all_goals
   go_wp2;go_ret;exact ⟨_,rfl,z57 hs hq' hv,by first | exact HR4.out | exact Rd.alloc HR4.out _,by first | exact HB4.out | exact Bk.alloc HB4.out _⟩
theorem z6e (a b c:Int) (k:Int) (h0:0≤k) (h1:k < 3):∃ v:Int,(#[Value.int .i64 a,.int .i64 b,.int .i64 c]:Array Value)[k.toNat]?=some (.int .i64 v):=by
 rcases (by omega:k=0∨k=1∨k=2) with rfl | rfl | rfl <;> exact ⟨_,rfl⟩
theorem z4d (a b c d:Int) (k:Int) (h0:0≤k) (h1:k < 4):∃ v:Int,(#[Value.int .i64 a,.int .i64 b,.int .i64 c,.int .i64 d]:Array Value)[k.toNat]?=some (.int .i64 v):=by
 rcases (by omega:k=0∨k=1∨k=2∨k=3) with rfl | rfl | rfl | rfl <;> exact ⟨_,rfl⟩
theorem zw {w:World} {g:Nat} {x y:Value} {t:TypeId} (h:w.heap[g]?=some (.cells #[x,y] t)) :
  (w.cell? ⟨g,0,none⟩=some x∧w.cell? ⟨g,1,none⟩=some y)∧w.frozen? ⟨g,0,none⟩=false∧w.frozen? ⟨g,1,none⟩=false :=
 ⟨⟨Joins.cell_of_block h 0,Joins.cell_of_block h 1⟩,Joins.unfrozen_of_block h 0,Joins.unfrozen_of_block h 1⟩
theorem z6V {w:World} {g:Nat} {x y:Value} {t:TypeId} (h:w.heap[g]?=some (.cells #[x,y] t)) (v:Value):(w.setCell ⟨g,0,none⟩ v).heap[g]?=some (.cells #[v,y] t):=by rw [Joins.block_setCell h];simp
theorem z7h {w:World} {g:Nat} {x y:Value} {t:TypeId} (h:w.heap[g]?=some (.cells #[x,y] t)) (v:Value):(w.setCell ⟨g,1,none⟩ v).heap[g]?=some (.cells #[x,v] t):=by rw [Joins.block_setCell h];simp
theorem z1a {w:World} {g:Nat} {o:Option Obj} (h:w.heap[g]?=o) {p:Addr} (hp:g ≠ p.block) (v:Value):(w.setCell p v).heap[g]?=o:=(Below.heap_setCell _ _ _ _ hp).trans h
theorem z0i {w:World} {g:Nat} {o:Obj} (h:w.heap[g]?=some o) (q:Obj):(w.alloc q).heap[g]?=some o:=(Below.heap_alloc _ _ _ (bL h)).trans h
theorem z0q (w:World) (q:Obj):(w.alloc q).heap[w.heap.size]?=some q:=by show (w.heap.push q)[w.heap.size]?=_;simp
theorem z1l (w:World) (p q:Obj):((w.alloc p).alloc q).heap[w.heap.size+1]?=some q:=by
 have h:=z0q (w.alloc p) q;rw [show (w.alloc p).heap.size=w.heap.size+1 by simp] at h;exact h
theorem z1m (r B:Nat) (n:Int) (hn:1≤n) (w:World) (h:Rd w r B) (hB:B≤900000) :
  Calls Try.prog 82 #[.pointer (some ⟨r,0,none⟩),.int .i64 n] w fun e w'=>∃ x y:Int,e=.returned (.agg #[.int .i64 x,.int .i64 y])∧Rd w' r (B+6)∧Bk r w w':=by
 have hlt:=h.lt;have hr0:w.heap.size ≠ r:=(by omega);have hr1:w.heap.size+1 ≠ r:=(by omega);have HR:Hid (Rd w r B):=h;clear h;go_enter Try.func82,Try.ntmps82;go_wp2_with fail
 refine (zk r (B+0) _ _ (Rd.alloc (Rd.alloc HR.out _) _) (by omega)).mono ?_;rintro e w1 ⟨k1,rfl,hk1,hR1,hb1⟩;obtain ⟨hk1a,hk1b⟩:=hk1 (by omega);have hz1:=hb1.size
 try simp at hz1
 have hx1:w.heap.size+1 < w1.heap.size:=(by omega);have hw1:w1.heap.size ≠ r:=(by omega);have A1:=Hd ((hb1.block w.heap.size (by first | omega | (simp;omega) | simp) hr0).trans (z0i (z0q _ _) _));have B1:=Hd ((hb1.block (w.heap.size+1) (by first | omega | (simp;omega) | simp) hr1).trans (z1l _ _ _));obtain ⟨⟨a10,a11⟩,af10,af11⟩:=zw A1.out;obtain ⟨⟨b10,b11⟩,bf10,bf11⟩:=zw B1.out;have HR1:Hid (Rd w1 r (B+1)):=hR1;have HB1:Hid (Bk r _ w1):=hb1;clear hR1 hb1 hk1 hz1
 rcases (by omega:(k1=0∨k1=1)∨k1=2∨k1=3) with hk | rfl | rfl
 ·rcases hk with rfl | rfl
  all_goals
   go_wp2_with fail
   refine (zk r (B+1) _ _ HR1.out (by omega)).mono ?_;rintro e w2 ⟨k2,rfl,hk2,hR2,hb2⟩;obtain ⟨hk2a,hk2b⟩:=hk2 (by omega);have hz2:=hb2.size
   try simp at hz2
   have hx2:w.heap.size+1 < w2.heap.size:=(by omega);have hw2:w2.heap.size ≠ r:=(by omega);have A2:=Hd ((hb2.block w.heap.size (by first | omega | (simp;omega) | simp) hr0).trans (A1.out));have B2:=Hd ((hb2.block (w.heap.size+1) (by first | omega | (simp;omega) | simp) hr1).trans (B1.out));obtain ⟨⟨a20,a21⟩,af20,af21⟩:=zw A2.out;obtain ⟨⟨b20,b21⟩,bf20,bf21⟩:=zw B2.out;have HR2:Hid (Rd w2 r (B+2)):=hR2;have HB2:Hid (Bk r _ w2):=hb2;clear hR2 hb2 hk2 hz2;clear a10 a11 af10 af11 b10 b11 bf10 bf11 A1 B1 hw1;go_wp2_with fail
   refine (zk r (B+2) _ _ HR2.out (by omega)).mono ?_;rintro e w3 ⟨k3,rfl,hk3,hR3,hb3⟩;obtain ⟨hk3a,hk3b⟩:=hk3 (by omega);have hz3:=hb3.size
   try simp at hz3
   have hx3:w.heap.size+1 < w3.heap.size:=(by omega);have hw3:w3.heap.size ≠ r:=(by omega);have A3:=Hd ((hb3.block w.heap.size (by first | omega | (simp;omega) | simp) hr0).trans (A2.out));have B3:=Hd ((hb3.block (w.heap.size+1) (by first | omega | (simp;omega) | simp) hr1).trans (B2.out));obtain ⟨⟨a30,a31⟩,af30,af31⟩:=zw A3.out;obtain ⟨⟨b30,b31⟩,bf30,bf31⟩:=zw B3.out;have HR3:Hid (Rd w3 r (B+3)):=hR3;have HB3:Hid (Bk r _ w3):=hb3;clear hR3 hb3 hk3 hz3;clear a20 a21 af20 af21 b20 b21 bf20 bf21 A2 B2 hw2;go_wp2_with fail
   refine (zk r (B+3) _ _ (Rd.set (Rd.set HR3.out (by dsimp only;omega) _) (by dsimp only;omega) _) (by omega)).mono ?_;rintro e w4 ⟨k4,rfl,hk4,hR4,hb4⟩;obtain ⟨hk4a,hk4b⟩:=hk4 (by omega);have hz4:=hb4.size
   try simp at hz4
   have hx4:w.heap.size+1 < w4.heap.size:=(by omega);have hw4:w4.heap.size ≠ r:=(by omega);have A4:=Hd ((hb4.block w.heap.size (by first | omega | (simp;omega) | simp) hr0).trans (z1a (z1a A3.out (by dsimp only;omega) _) (by dsimp only;omega) _));have B4:=Hd ((hb4.block (w.heap.size+1) (by first | omega | (simp;omega) | simp) hr1).trans (z7h (z6V B3.out _) _));obtain ⟨⟨a40,a41⟩,af40,af41⟩:=zw A4.out;obtain ⟨⟨b40,b41⟩,bf40,bf41⟩:=zw B4.out;have HR4:Hid (Rd w4 r (B+4)):=hR4;have HB4:Hid (Bk r _ w4):=hb4;clear hR4 hb4 hk4 hz4;clear a30 a31 af30 af31 b30 b31 bf30 bf31 A3 B3 hw3;by_cases e4:k4=0
   ·subst e4;go_wp2_with fail
    refine (zk r (B+4) _ _ HR4.out (by omega)).mono ?_;rintro e w5 ⟨k5,rfl,hk5,hR5,hb5⟩;obtain ⟨hk5a,hk5b⟩:=hk5 (by omega);have hz5:=hb5.size
    try simp at hz5
    have hx5:w.heap.size+1 < w5.heap.size:=(by omega);have hw5:w5.heap.size ≠ r:=(by omega);have A5:=Hd ((hb5.block w.heap.size (by first | omega | (simp;omega) | simp) hr0).trans (A4.out));have B5:=Hd ((hb5.block (w.heap.size+1) (by first | omega | (simp;omega) | simp) hr1).trans (B4.out));obtain ⟨⟨a50,a51⟩,af50,af51⟩:=zw A5.out;obtain ⟨⟨b50,b51⟩,bf50,bf51⟩:=zw B5.out;have HR5:Hid (Rd w5 r (B+5)):=hR5;have HB5:Hid (Bk r _ w5):=hb5;clear hR5 hb5 hk5 hz5;clear a40 a41 af40 af41 b40 b41 bf40 bf41 A4 B4 hw4;by_cases e5:k5=0
    ·subst e5;go_wp2_with fail
     refine (zk r (B+5) _ _ (Rd.alloc HR5.out _) (by omega)).mono ?_;rintro e w6 ⟨k6,rfl,hk6,hR6,hb6⟩;obtain ⟨hk6a,hk6b⟩:=hk6 (by omega);have hz6:=hb6.size
     try simp at hz6
     have hx6:w.heap.size+1 < w6.heap.size:=(by omega);have hw6:w6.heap.size ≠ r:=(by omega);have A6:=Hd ((hb6.block w.heap.size (by first | omega | (simp;omega) | simp) hr0).trans (z0i A5.out _));have B6:=Hd ((hb6.block (w.heap.size+1) (by first | omega | (simp;omega) | simp) hr1).trans (z0i B5.out _));obtain ⟨⟨a60,a61⟩,af60,af61⟩:=zw A6.out;obtain ⟨⟨b60,b61⟩,bf60,bf61⟩:=zw B6.out;obtain ⟨v,hv⟩:=z6e (-1) 5 1 k6 hk6a hk6b;have hcv:w6.cell? ⟨w5.heap.size,k6.toNat,none⟩=some (.int .i64 v):=(Joins.cell_of_block ((hb6.block w5.heap.size (by simp) hw5).trans (z0q _ _)) _).trans hv;clear hv;have HR6:Hid (Rd w6 r (B+6)):=hR6;have HB6:Hid (Bk r _ w6):=hb6;clear hR6 hb6 hk6 hz6;clear a50 a51 af50 af51 b50 b51 bf50 bf51 A5 B5 hw5;go_wp2;exact bodyPost_ret (v:=.agg #[.int .i64 (v),.int .i64 (1+k3)]) (by simp [results,Try.results82,go_sem,a60,a61]) rfl ⟨v,1+k3,rfl,Rd.mono (B:=B+6) (Rd.set (Rd.set (Rd.set HR6.out (by dsimp only;omega) _) (by dsimp only;omega) _) (by dsimp only;omega) _) (by omega),(Bk.set (Bk.set (Bk.set (Bk.trans (Bk.alloc (Bk.trans (Bk.trans (Bk.set (Bk.set (Bk.trans (Bk.trans (Bk.trans (Bk.alloc (Bk.alloc (Bk.refl r w) _) _) HB1.out) HB2.out) HB3.out) (Or.inr (by dsimp only;omega)) _) (Or.inr (by dsimp only;omega)) _) HB4.out) HB5.out) _) HB6.out) (Or.inr (by dsimp only;omega)) _) (Or.inr (by dsimp only;omega)) _) (Or.inr (by dsimp only;omega)) _)⟩
    ·have e5':(k5 == 0)=false:=beq_eq_false_iff_ne.2 e5;go_wp2_with fail
     refine (zk r (B+5) _ _ (Rd.alloc HR5.out _) (by omega)).mono ?_;rintro e w6 ⟨k6,rfl,hk6,hR6,hb6⟩;obtain ⟨hk6a,hk6b⟩:=hk6 (by omega);have hz6:=hb6.size
     try simp at hz6
     have hx6:w.heap.size+1 < w6.heap.size:=(by omega);have hw6:w6.heap.size ≠ r:=(by omega);have A6:=Hd ((hb6.block w.heap.size (by first | omega | (simp;omega) | simp) hr0).trans (z0i A5.out _));have B6:=Hd ((hb6.block (w.heap.size+1) (by first | omega | (simp;omega) | simp) hr1).trans (z0i B5.out _));obtain ⟨⟨a60,a61⟩,af60,af61⟩:=zw A6.out;obtain ⟨⟨b60,b61⟩,bf60,bf61⟩:=zw B6.out;obtain ⟨v,hv⟩:=z4d (-1) 4 0 1 k6 hk6a hk6b;have hcv:w6.cell? ⟨w5.heap.size,k6.toNat,none⟩=some (.int .i64 v):=(Joins.cell_of_block ((hb6.block w5.heap.size (by simp) hw5).trans (z0q _ _)) _).trans hv;clear hv;have HR6:Hid (Rd w6 r (B+6)):=hR6;have HB6:Hid (Bk r _ w6):=hb6;clear hR6 hb6 hk6 hz6;clear a50 a51 af50 af51 b50 b51 bf50 bf51 A5 B5 hw5;go_wp2;exact bodyPost_ret (v:=.agg #[.int .i64 (1+k2),.int .i64 (v)]) (by simp [results,Try.results82,go_sem,a60,a61]) rfl ⟨1+k2,v,rfl,Rd.mono (B:=B+6) (Rd.set (Rd.set (Rd.set HR6.out (by dsimp only;omega) _) (by dsimp only;omega) _) (by dsimp only;omega) _) (by omega),(Bk.set (Bk.set (Bk.set (Bk.trans (Bk.alloc (Bk.trans (Bk.trans (Bk.set (Bk.set (Bk.trans (Bk.trans (Bk.trans (Bk.alloc (Bk.alloc (Bk.refl r w) _) _) HB1.out) HB2.out) HB3.out) (Or.inr (by dsimp only;omega)) _) (Or.inr (by dsimp only;omega)) _) HB4.out) HB5.out) _) HB6.out) (Or.inr (by dsimp only;omega)) _) (Or.inr (by dsimp only;omega)) _) (Or.inr (by dsimp only;omega)) _)⟩
   ·have e4':(k4 == 0)=false:=beq_eq_false_iff_ne.2 e4;go_wp2;exact bodyPost_ret (v:=.agg #[.int .i64 (1+k2),.int .i64 (1+k3)]) (by simp [results,Try.results82,go_sem,a40,a41]) rfl ⟨1+k2,1+k3,rfl,Rd.mono (B:=B+4) (Rd.set (Rd.set HR4.out (by dsimp only;omega) _) (by dsimp only;omega) _) (by omega),(Bk.set (Bk.set (Bk.trans (Bk.set (Bk.set (Bk.trans (Bk.trans (Bk.trans (Bk.alloc (Bk.alloc (Bk.refl r w) _) _) HB1.out) HB2.out) HB3.out) (Or.inr (by dsimp only;omega)) _) (Or.inr (by dsimp only;omega)) _) HB4.out) (Or.inr (by dsimp only;omega)) _) (Or.inr (by dsimp only;omega)) _)⟩
 ·go_wp2_with fail
  refine (zk r (B+1) _ _ HR1.out (by omega)).mono ?_;rintro e w2 ⟨k2,rfl,hk2,hR2,hb2⟩;obtain ⟨hk2a,hk2b⟩:=hk2 (by omega);have hz2:=hb2.size
  try simp at hz2
  have hx2:w.heap.size+1 < w2.heap.size:=(by omega);have hw2:w2.heap.size ≠ r:=(by omega);have A2:=Hd ((hb2.block w.heap.size (by first | omega | (simp;omega) | simp) hr0).trans (A1.out));have B2:=Hd ((hb2.block (w.heap.size+1) (by first | omega | (simp;omega) | simp) hr1).trans (B1.out));obtain ⟨⟨a20,a21⟩,af20,af21⟩:=zw A2.out;obtain ⟨⟨b20,b21⟩,bf20,bf21⟩:=zw B2.out;have HR2:Hid (Rd w2 r (B+2)):=hR2;have HB2:Hid (Bk r _ w2):=hb2;clear hR2 hb2 hk2 hz2;clear a10 a11 af10 af11 b10 b11 bf10 bf11 A1 B1 hw1;by_cases e2:k2=0
  all_goals
   first | subst e2 | have e2':(k2 == 0)=false:=beq_eq_false_iff_ne.2 e2
   go_wp2_with fail
   first | refine (zk r (B+2) _ _ (Rd.set HR2.out (by dsimp only;omega) _) (by omega)).mono ?_ | refine (zk r (B+2) _ _ HR2.out (by omega)).mono ?_
   rintro e w3 ⟨k3,rfl,hk3,hR3,hb3⟩;obtain ⟨hk3a,hk3b⟩:=hk3 (by omega);have hz3:=hb3.size
   try simp at hz3
   have hx3:w.heap.size+1 < w3.heap.size:=(by omega);have hw3:w3.heap.size ≠ r:=(by omega);have A3:=Hd ((hb3.block w.heap.size (by first | omega | (simp;omega) | simp) hr0).trans (by first | exact (z1a A2.out (by dsimp only;omega) _) | exact (A2.out)));have B3:=Hd ((hb3.block (w.heap.size+1) (by first | omega | (simp;omega) | simp) hr1).trans (by first | exact (z6V B2.out _) | exact (B2.out)));obtain ⟨⟨a30,a31⟩,af30,af31⟩:=zw A3.out;obtain ⟨⟨b30,b31⟩,bf30,bf31⟩:=zw B3.out;have HR3:Hid (Rd w3 r (B+3)):=hR3;have HB3:Hid (Bk r _ w3):=hb3;clear hR3 hb3 hk3 hz3;clear a20 a21 af20 af21 b20 b21 bf20 bf21 A2 B2 hw2;by_cases e3:k3=0
   ·subst e3;go_wp2_with fail
    refine (zk r (B+3) _ _ HR3.out (by omega)).mono ?_;rintro e w4 ⟨k4,rfl,hk4,hR4,hb4⟩;obtain ⟨hk4a,hk4b⟩:=hk4 (by omega);have hz4:=hb4.size
    try simp at hz4
    have hx4:w.heap.size+1 < w4.heap.size:=(by omega);have hw4:w4.heap.size ≠ r:=(by omega);have A4:=Hd ((hb4.block w.heap.size (by first | omega | (simp;omega) | simp) hr0).trans (A3.out));have B4:=Hd ((hb4.block (w.heap.size+1) (by first | omega | (simp;omega) | simp) hr1).trans (B3.out));obtain ⟨⟨a40,a41⟩,af40,af41⟩:=zw A4.out;obtain ⟨⟨b40,b41⟩,bf40,bf41⟩:=zw B4.out;have HR4:Hid (Rd w4 r (B+4)):=hR4;have HB4:Hid (Bk r _ w4):=hb4;clear hR4 hb4 hk4 hz4;clear a30 a31 af30 af31 b30 b31 bf30 bf31 A3 B3 hw3;by_cases e4:k4=0
    ·subst e4;go_wp2_with fail
     refine (zk r (B+4) _ _ (Rd.alloc HR4.out _) (by omega)).mono ?_;rintro e w5 ⟨k5,rfl,hk5,hR5,hb5⟩;obtain ⟨hk5a,hk5b⟩:=hk5 (by omega);have hz5:=hb5.size
     try simp at hz5
     have hx5:w.heap.size+1 < w5.heap.size:=(by omega);have hw5:w5.heap.size ≠ r:=(by omega);have A5:=Hd ((hb5.block w.heap.size (by first | omega | (simp;omega) | simp) hr0).trans (z0i A4.out _));have B5:=Hd ((hb5.block (w.heap.size+1) (by first | omega | (simp;omega) | simp) hr1).trans (z0i B4.out _));obtain ⟨⟨a50,a51⟩,af50,af51⟩:=zw A5.out;obtain ⟨⟨b50,b51⟩,bf50,bf51⟩:=zw B5.out;obtain ⟨v,hv⟩:=z6e (-1) 5 1 k5 hk5a hk5b;have hcv:w5.cell? ⟨w4.heap.size,k5.toNat,none⟩=some (.int .i64 v):=(Joins.cell_of_block ((hb5.block w4.heap.size (by simp) hw4).trans (z0q _ _)) _).trans hv;clear hv;have HR5:Hid (Rd w5 r (B+5)):=hR5;have HB5:Hid (Bk r _ w5):=hb5;clear hR5 hb5 hk5 hz5;clear a40 a41 af40 af41 b40 b41 bf40 bf41 A4 B4 hw4;go_wp2
     first | exact bodyPost_ret (v:=.agg #[.int .i64 (v),.int .i64 (0)]) (by simp [results,Try.results82,go_sem,a50,a51]) rfl ⟨v,0,rfl,Rd.mono (B:=B+5) (Rd.set (Rd.set (Rd.set HR5.out (by dsimp only;omega) _) (by dsimp only;omega) _) (by dsimp only;omega) _) (by omega),(Bk.set (Bk.set (Bk.set (Bk.trans (Bk.alloc (Bk.trans (Bk.trans (Bk.set (Bk.trans (Bk.trans (Bk.alloc (Bk.alloc (Bk.refl r w) _) _) HB1.out) HB2.out) (Or.inr (by dsimp only;omega)) _) HB3.out) HB4.out) _) HB5.out) (Or.inr (by dsimp only;omega)) _) (Or.inr (by dsimp only;omega)) _) (Or.inr (by dsimp only;omega)) _)⟩ | exact bodyPost_ret (v:=.agg #[.int .i64 (v),.int .i64 (0)]) (by simp [results,Try.results82,go_sem,a50,a51]) rfl ⟨v,0,rfl,Rd.mono (B:=B+5) (Rd.set (Rd.set (Rd.set HR5.out (by dsimp only;omega) _) (by dsimp only;omega) _) (by dsimp only;omega) _) (by omega),(Bk.set (Bk.set (Bk.set (Bk.trans (Bk.alloc (Bk.trans (Bk.trans (Bk.trans (Bk.trans (Bk.alloc (Bk.alloc (Bk.refl r w) _) _) HB1.out) HB2.out) HB3.out) HB4.out) _) HB5.out) (Or.inr (by dsimp only;omega)) _) (Or.inr (by dsimp only;omega)) _) (Or.inr (by dsimp only;omega)) _)⟩
    ·have e4':(k4 == 0)=false:=beq_eq_false_iff_ne.2 e4;go_wp2_with fail
     refine (zk r (B+4) _ _ (Rd.alloc HR4.out _) (by omega)).mono ?_;rintro e w5 ⟨k5,rfl,hk5,hR5,hb5⟩;obtain ⟨hk5a,hk5b⟩:=hk5 (by omega);have hz5:=hb5.size
     try simp at hz5
     have hx5:w.heap.size+1 < w5.heap.size:=(by omega);have hw5:w5.heap.size ≠ r:=(by omega);have A5:=Hd ((hb5.block w.heap.size (by first | omega | (simp;omega) | simp) hr0).trans (z0i A4.out _));have B5:=Hd ((hb5.block (w.heap.size+1) (by first | omega | (simp;omega) | simp) hr1).trans (z0i B4.out _));obtain ⟨⟨a50,a51⟩,af50,af51⟩:=zw A5.out;obtain ⟨⟨b50,b51⟩,bf50,bf51⟩:=zw B5.out;obtain ⟨v,hv⟩:=z4d (-1) 4 0 1 k5 hk5a hk5b;have hcv:w5.cell? ⟨w4.heap.size,k5.toNat,none⟩=some (.int .i64 v):=(Joins.cell_of_block ((hb5.block w4.heap.size (by simp) hw4).trans (z0q _ _)) _).trans hv;clear hv;have HR5:Hid (Rd w5 r (B+5)):=hR5;have HB5:Hid (Bk r _ w5):=hb5;clear hR5 hb5 hk5 hz5;clear a40 a41 af40 af41 b40 b41 bf40 bf41 A4 B4 hw4;go_wp2
     first | exact bodyPost_ret (v:=.agg #[.int .i64 (4),.int .i64 (v)]) (by simp [results,Try.results82,go_sem,a50,a51]) rfl ⟨4,v,rfl,Rd.mono (B:=B+5) (Rd.set (Rd.set (Rd.set HR5.out (by dsimp only;omega) _) (by dsimp only;omega) _) (by dsimp only;omega) _) (by omega),(Bk.set (Bk.set (Bk.set (Bk.trans (Bk.alloc (Bk.trans (Bk.trans (Bk.set (Bk.trans (Bk.trans (Bk.alloc (Bk.alloc (Bk.refl r w) _) _) HB1.out) HB2.out) (Or.inr (by dsimp only;omega)) _) HB3.out) HB4.out) _) HB5.out) (Or.inr (by dsimp only;omega)) _) (Or.inr (by dsimp only;omega)) _) (Or.inr (by dsimp only;omega)) _)⟩ | exact bodyPost_ret (v:=.agg #[.int .i64 (0),.int .i64 (v)]) (by simp [results,Try.results82,go_sem,a50,a51]) rfl ⟨0,v,rfl,Rd.mono (B:=B+5) (Rd.set (Rd.set (Rd.set HR5.out (by dsimp only;omega) _) (by dsimp only;omega) _) (by dsimp only;omega) _) (by omega),(Bk.set (Bk.set (Bk.set (Bk.trans (Bk.alloc (Bk.trans (Bk.trans (Bk.trans (Bk.trans (Bk.alloc (Bk.alloc (Bk.refl r w) _) _) HB1.out) HB2.out) HB3.out) HB4.out) _) HB5.out) (Or.inr (by dsimp only;omega)) _) (Or.inr (by dsimp only;omega)) _) (Or.inr (by dsimp only;omega)) _)⟩
   ·have e3':(k3 == 0)=false:=beq_eq_false_iff_ne.2 e3;go_wp2
    first | exact bodyPost_ret (v:=.agg #[.int .i64 (4),.int .i64 (0)]) (by simp [results,Try.results82,go_sem,a30,a31]) rfl ⟨4,0,rfl,Rd.mono (B:=B+3) (Rd.set (Rd.set HR3.out (by dsimp only;omega) _) (by dsimp only;omega) _) (by omega),(Bk.set (Bk.set (Bk.trans (Bk.set (Bk.trans (Bk.trans (Bk.alloc (Bk.alloc (Bk.refl r w) _) _) HB1.out) HB2.out) (Or.inr (by dsimp only;omega)) _) HB3.out) (Or.inr (by dsimp only;omega)) _) (Or.inr (by dsimp only;omega)) _)⟩ | exact bodyPost_ret (v:=.agg #[.int .i64 (0),.int .i64 (0)]) (by simp [results,Try.results82,go_sem,a30,a31]) rfl ⟨0,0,rfl,Rd.mono (B:=B+3) (Rd.set (Rd.set HR3.out (by dsimp only;omega) _) (by dsimp only;omega) _) (by omega),(Bk.set (Bk.set (Bk.trans (Bk.trans (Bk.trans (Bk.alloc (Bk.alloc (Bk.refl r w) _) _) HB1.out) HB2.out) HB3.out) (Or.inr (by dsimp only;omega)) _) (Or.inr (by dsimp only;omega)) _)⟩
 ·go_wp2_with fail
  refine (zk r (B+1) _ _ HR1.out (by omega)).mono ?_;rintro e w2 ⟨k2,rfl,hk2,hR2,hb2⟩;obtain ⟨hk2a,hk2b⟩:=hk2 (by omega);have hz2:=hb2.size
  try simp at hz2
  have hx2:w.heap.size+1 < w2.heap.size:=(by omega);have hw2:w2.heap.size ≠ r:=(by omega);have A2:=Hd ((hb2.block w.heap.size (by first | omega | (simp;omega) | simp) hr0).trans (A1.out));have B2:=Hd ((hb2.block (w.heap.size+1) (by first | omega | (simp;omega) | simp) hr1).trans (B1.out));obtain ⟨⟨a20,a21⟩,af20,af21⟩:=zw A2.out;obtain ⟨⟨b20,b21⟩,bf20,bf21⟩:=zw B2.out;have HR2:Hid (Rd w2 r (B+2)):=hR2;have HB2:Hid (Bk r _ w2):=hb2;clear hR2 hb2 hk2 hz2;clear a10 a11 af10 af11 b10 b11 bf10 bf11 A1 B1 hw1;by_cases e2:k2=0
  ·subst e2;go_wp2_with fail
   refine (zk r (B+2) _ _ HR2.out (by omega)).mono ?_;rintro e w3 ⟨k3,rfl,hk3,hR3,hb3⟩;obtain ⟨hk3a,hk3b⟩:=hk3 (by omega);have hz3:=hb3.size
   try simp at hz3
   have hx3:w.heap.size+1 < w3.heap.size:=(by omega);have hw3:w3.heap.size ≠ r:=(by omega);have A3:=Hd ((hb3.block w.heap.size (by first | omega | (simp;omega) | simp) hr0).trans (A2.out));have B3:=Hd ((hb3.block (w.heap.size+1) (by first | omega | (simp;omega) | simp) hr1).trans (B2.out));obtain ⟨⟨a30,a31⟩,af30,af31⟩:=zw A3.out;obtain ⟨⟨b30,b31⟩,bf30,bf31⟩:=zw B3.out;have HR3:Hid (Rd w3 r (B+3)):=hR3;have HB3:Hid (Bk r _ w3):=hb3;clear hR3 hb3 hk3 hz3;clear a20 a21 af20 af21 b20 b21 bf20 bf21 A2 B2 hw2;by_cases e3:k3=0
   ·subst e3;go_wp2_with fail
    refine (zk r (B+3) _ _ (Rd.alloc HR3.out _) (by omega)).mono ?_;rintro e w4 ⟨k4,rfl,hk4,hR4,hb4⟩;obtain ⟨hk4a,hk4b⟩:=hk4 (by omega);have hz4:=hb4.size
    try simp at hz4
    have hx4:w.heap.size+1 < w4.heap.size:=(by omega);have hw4:w4.heap.size ≠ r:=(by omega);have A4:=Hd ((hb4.block w.heap.size (by first | omega | (simp;omega) | simp) hr0).trans (z0i A3.out _));have B4:=Hd ((hb4.block (w.heap.size+1) (by first | omega | (simp;omega) | simp) hr1).trans (z0i B3.out _));obtain ⟨⟨a40,a41⟩,af40,af41⟩:=zw A4.out;obtain ⟨⟨b40,b41⟩,bf40,bf41⟩:=zw B4.out;obtain ⟨v,hv⟩:=z6e (-1) 5 1 k4 hk4a hk4b;have hcv:w4.cell? ⟨w3.heap.size,k4.toNat,none⟩=some (.int .i64 v):=(Joins.cell_of_block ((hb4.block w3.heap.size (by simp) hw3).trans (z0q _ _)) _).trans hv;clear hv;have HR4:Hid (Rd w4 r (B+4)):=hR4;have HB4:Hid (Bk r _ w4):=hb4;clear hR4 hb4 hk4 hz4;clear a30 a31 af30 af31 b30 b31 bf30 bf31 A3 B3 hw3;go_wp2;exact bodyPost_ret (v:=.agg #[.int .i64 (v),.int .i64 (0)]) (by simp [results,Try.results82,go_sem,a40,a41]) rfl ⟨v,0,rfl,Rd.mono (B:=B+4) (Rd.set (Rd.set (Rd.set HR4.out (by dsimp only;omega) _) (by dsimp only;omega) _) (by dsimp only;omega) _) (by omega),(Bk.set (Bk.set (Bk.set (Bk.trans (Bk.alloc (Bk.trans (Bk.trans (Bk.trans (Bk.alloc (Bk.alloc (Bk.refl r w) _) _) HB1.out) HB2.out) HB3.out) _) HB4.out) (Or.inr (by dsimp only;omega)) _) (Or.inr (by dsimp only;omega)) _) (Or.inr (by dsimp only;omega)) _)⟩
   ·have e3':(k3 == 0)=false:=beq_eq_false_iff_ne.2 e3;go_wp2_with fail
    refine (zk r (B+3) _ _ (Rd.alloc HR3.out _) (by omega)).mono ?_;rintro e w4 ⟨k4,rfl,hk4,hR4,hb4⟩;obtain ⟨hk4a,hk4b⟩:=hk4 (by omega);have hz4:=hb4.size
    try simp at hz4
    have hx4:w.heap.size+1 < w4.heap.size:=(by omega);have hw4:w4.heap.size ≠ r:=(by omega);have A4:=Hd ((hb4.block w.heap.size (by first | omega | (simp;omega) | simp) hr0).trans (z0i A3.out _));have B4:=Hd ((hb4.block (w.heap.size+1) (by first | omega | (simp;omega) | simp) hr1).trans (z0i B3.out _));obtain ⟨⟨a40,a41⟩,af40,af41⟩:=zw A4.out;obtain ⟨⟨b40,b41⟩,bf40,bf41⟩:=zw B4.out;obtain ⟨v,hv⟩:=z4d (-1) 4 0 1 k4 hk4a hk4b;have hcv:w4.cell? ⟨w3.heap.size,k4.toNat,none⟩=some (.int .i64 v):=(Joins.cell_of_block ((hb4.block w3.heap.size (by simp) hw3).trans (z0q _ _)) _).trans hv;clear hv;have HR4:Hid (Rd w4 r (B+4)):=hR4;have HB4:Hid (Bk r _ w4):=hb4;clear hR4 hb4 hk4 hz4;clear a30 a31 af30 af31 b30 b31 bf30 bf31 A3 B3 hw3;go_wp2;exact bodyPost_ret (v:=.agg #[.int .i64 (0),.int .i64 (v)]) (by simp [results,Try.results82,go_sem,a40,a41]) rfl ⟨0,v,rfl,Rd.mono (B:=B+4) (Rd.set (Rd.set (Rd.set HR4.out (by dsimp only;omega) _) (by dsimp only;omega) _) (by dsimp only;omega) _) (by omega),(Bk.set (Bk.set (Bk.set (Bk.trans (Bk.alloc (Bk.trans (Bk.trans (Bk.trans (Bk.alloc (Bk.alloc (Bk.refl r w) _) _) HB1.out) HB2.out) HB3.out) _) HB4.out) (Or.inr (by dsimp only;omega)) _) (Or.inr (by dsimp only;omega)) _) (Or.inr (by dsimp only;omega)) _)⟩
  ·have e2':(k2 == 0)=false:=beq_eq_false_iff_ne.2 e2;go_wp2;exact bodyPost_ret (v:=.agg #[.int .i64 (0),.int .i64 (0)]) (by simp [results,Try.results82,go_sem,a20,a21]) rfl ⟨0,0,rfl,Rd.mono (B:=B+2) (Rd.set (Rd.set HR2.out (by dsimp only;omega) _) (by dsimp only;omega) _) (by omega),(Bk.set (Bk.set (Bk.trans (Bk.trans (Bk.alloc (Bk.alloc (Bk.refl r w) _) _) HB1.out) HB2.out) (Or.inr (by dsimp only;omega)) _) (Or.inr (by dsimp only;omega)) _)⟩
end
end Go.Proofs.Ytggmjiddadjilam
