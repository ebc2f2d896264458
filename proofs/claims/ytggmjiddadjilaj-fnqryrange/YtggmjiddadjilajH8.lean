/-
  PROVED HERE: a region that draws its order, by a fact that each operation keeps, whatever was carried out ahead of it. Also: a region that draws its order may be walked by what holds between two of its operations, whichever have been carried out. Also: the drawing of a text (l20Text, l20AnyText) gives some short string, and turns nothing that was in memory but the reader.
-/
import Derived.Test.YtggmjiddadjilajH6
import Derived.Test.YtggmjiddadjilajH7
import Derived.WalkLawsBesides
import Derived.WalkSpells
import Derived.Deep.QuietTactic
import Derived.BigQuiet
import Derived.RegionTactic
import Derived.Lib.SmallJoins
import Derived.Orders
import Derived.Lib.Strings
import Derived.Deep.RegionWith
namespace Go.Proofs.Ytggmjiddadjilaj
open Go.RowKit

def upd (L:Nat→Bool) (i:Nat):Nat→Bool:=fun j=>if j=i then true else L j
theorem upd_ne {L:Nat→Bool} {i j:Nat} (h:(j == i)=false):upd L i j=L j:=by
 unfold upd
 rw [if_neg (fun e=>by rw [e] at h;simp at h)]
theorem un {L:Nat→Bool} {i j:Nat} {b:Bool} (h:upd L i j=b) (e:(j == i)=false:=by rfl):L j=b:=by rwa [upd_ne e] at h
theorem upd_self {L:Nat→Bool} {i:Nat}:upd L i i=true:=by simp [upd]
/-- each operation hangs on operations ahead of it alone -/
def aheadB (ops:Array Oper):Bool:=(List.range ops.size).all fun i=>((ops[i]?).map fun o=>o.after.all fun e=>!Region.binds .any e || decide (e.on < i)).getD true
theorem ahead_all {ops:Array Oper} (h:aheadB ops=true) {listed:Array Bool} (hs:listed.size=ops.size) (hr:Region.ready .any ops listed=[]):∀ i,i < ops.size→listed.getD i false=true:=by
 intro i
 induction i using Nat.strongRecOn with
 | ind i ih =>
  intro hi
  cases hl:listed.getD i false with
  | true=>rfl
  | false =>
   exfalso
   have ho:ops[i]?=some ops[i]:=Array.getElem?_eq_getElem hi
   have h1:=List.all_eq_true.1 h i (List.mem_range.2 hi)
   rw [ho] at h1
   simp only [Option.map_some,Option.getD_some] at h1
   have hm:i ∈ Region.ready .any ops listed:=by
    unfold Region.ready
    rw [List.mem_filter]
    refine ⟨List.mem_range.2 hi,?_⟩
    have h2:listed.getD i true=false:=by
     rw [Array.getD_eq_getD_getElem?,Array.getElem?_eq_getElem (by omega)] at hl ⊢
     exact hl
    rw [h2,ho]
    simp only [Bool.not_false,Bool.true_and,Option.map_some,Option.getD_some]
    rw [Array.all_eq_true_iff_forall_mem]
    intro e he
    have h3:=Array.all_eq_true_iff_forall_mem.1 h1 e he
    cases hbn:Region.binds .any e with
    | false=>simp
    | true =>
     rw [hbn] at h3
     have h4:e.on < i:=by simpa using h3
     rw [ih e.on h4 (by omega)]
     simp
   rw [hr] at hm
   cases hm
theorem listed_set {listed:Array Bool} {i:Nat} (hi:i < listed.size):(fun j=>(listed.setIfInBounds i true).getD j false)=upd (fun j=>listed.getD j false) i:=by
 funext j
 unfold upd
 rw [Array.getD_eq_getD_getElem?]
 by_cases h:j=i
 ·subst h;simp [hi]
 ·rw [if_neg h,Array.getElem?_setIfInBounds_ne (Ne.symm h)]
  exact (Array.getD_eq_getD_getElem? ..).symm
theorem count_set {l:List Bool} {i:Nat} (h:l[i]?=some false):(l.set i true).count false+1=l.count false:=by
 induction l generalizing i with
 | nil=>simp at h
 | cons a t ih =>
  cases i with
  | zero=>simp at h;subst h;simp
  | succ i =>
   simp at h
   have:=ih h
   rw [List.set_cons_succ,List.count_cons,List.count_cons]
   omega

section
variable {P:Program} {ops:Array Oper} {Q:Exit→Act→World→Prop} (J:(Nat→Bool)→Act→World→Prop)
theorem wpAny_inv (hord:aheadB ops=true)
  (hs:∀ (L:Nat→Bool) (a:Act) (w:World) (i:Nat) (o:Oper),J L a w→ops[i]?=some o→L i=false→(∀ e ∈ o.after,Region.binds .any e=true→L e.on=true) →
   ∀ K:Act→World→Prop,(∀ a' w',J (upd L i) a' w'→K a' w')→if Region.wanted o (yielded ops a.tmps)=true then o.wp P a w K Q else K (a.put o.dst undef) w)
  (hd:∀ (L:Nat→Bool) (a:Act) (w:World),J L a w→(∀ i,i < ops.size→L i=true)→Q .normal a w) :
  ∀ (fuel:Nat) (listed:Array Bool) (a:Act) (w:World),listed.size=ops.size→listed.toList.count false≤fuel→J (fun j=>listed.getD j false) a w→wpAny P .any ops Q fuel listed a w:=by
 intro fuel
 induction fuel with
 | zero =>
  intro listed a w hsz hc hJ
  have hall:∀ i,i < ops.size→listed.getD i false=true:=by
   intro i hi
   have h0:listed.toList.count false=0:=by omega
   have hi':i < listed.size:=by omega
   have:=List.count_eq_zero.1 h0
   have hm:listed[i] ∈ listed.toList:=by simp
   rw [Array.getD_eq_getD_getElem?,Array.getElem?_eq_getElem hi',Option.getD_some]
   cases hv:listed[i] with
   | true=>rfl
   | false=>rw [hv] at hm;exact absurd hm this
  refine ⟨?_,hd _ _ _ hJ hall⟩
  unfold Region.ready
  rw [List.filter_eq_nil_iff]
  intro i hi
  have hi2:=List.mem_range.1 hi
  have:=hall i hi2
  have h3:listed.getD i true=true:=by
   rw [Array.getD_eq_getD_getElem?,Array.getElem?_eq_getElem (by omega)] at this ⊢
   exact this
  rw [h3];simp
 | succ fuel ih =>
  intro listed a w hsz hc hJ
  refine ⟨fun hr=>hd _ _ _ hJ (ahead_all hord hsz hr),fun i hi=>?_⟩
  unfold Region.ready at hi
  rw [List.mem_filter] at hi
  obtain ⟨h1,h2⟩:=hi
  have hlt:=List.mem_range.1 h1
  have ho:ops[i]?=some ops[i]:=Array.getElem?_eq_getElem hlt
  rw [ho] at h2
  simp only [Option.map_some,Option.getD_some,Bool.and_eq_true] at h2
  obtain ⟨h3,h4⟩:=h2
  have hil:i < listed.size:=by omega
  have hv:listed[i]=false:=by
   rw [Array.getD_eq_getD_getElem?,Array.getElem?_eq_getElem hil] at h3
   simpa using h3
  have hfi:listed.getD i false=false:=by rw [Array.getD_eq_getD_getElem?,Array.getElem?_eq_getElem hil,hv];rfl
  have hstep:=hs _ a w i ops[i] hJ ho hfi (fun e he hb=>by
   have:=Array.all_eq_true_iff_forall_mem.1 h4 e he
   rw [hb] at this
   simpa using this) (wpAny P .any ops Q fuel (listed.setIfInBounds i true)) (fun a' w' hJ'=>ih _ a' w' (by simpa using hsz) (by
    have:=count_set (l:=listed.toList) (i:=i) (by rw [Array.getElem?_toList,Array.getElem?_eq_getElem hil,hv])
    rw [Array.toList_setIfInBounds]
    omega) (by rw [listed_set hil];exact hJ'))
  unfold wpOp
  rw [ho]
  dsimp only
  split
  ·rename_i hw;rw [if_pos hw] at hstep;exact .inl hstep
  ·rename_i hw;rw [if_neg hw] at hstep;exact hstep
theorem wp_region_inv {id:Nat} {a:Act} {w:World} (hm:P.follows .mixedOrders=true) (hord:aheadB ops=true)
  (hs:∀ (L:Nat→Bool) (a:Act) (w:World) (i:Nat) (o:Oper),J L a w→ops[i]?=some o→L i=false→(∀ e ∈ o.after,Region.binds .any e=true→L e.on=true) →
   ∀ K:Act→World→Prop,(∀ a' w',J (upd L i) a' w'→K a' w')→if Region.wanted o (yielded ops a.tmps)=true then o.wp P a w K Q else K (a.put o.dst undef) w)
  (hd:∀ (L:Nat→Bool) (a:Act) (w:World),J L a w→(∀ i,i < ops.size→L i=true)→Q .normal a w)
  (h0:J (fun _=>false) a w.drew):(Code.region id ops true).wp P Q a w:=by
 refine wp_region_any hm (wpAny_inv J hord hs hd _ _ _ _ (by simp) (by simp) ?_)
 have e:(fun j=>(Array.replicate ops.size false).getD j false)=fun _=>false:=by
  funext j
  rw [Array.getD_eq_getD_getElem?]
  by_cases h:j < ops.size <;> simp [h]
 rw [e]
 exact h0
end
end Go.Proofs.Ytggmjiddadjilaj
namespace Go.Proofs.Ytggmjiddadjilaj
open Go.RowKit

/-- a block of the call's own -/
def Hp (n0:Nat) (w:World) (g:Nat) (o:Obj):Prop:=n0≤g∧w.heap[g]?=some o
theorem Hp.lt {n0 g:Nat} {w:World} {o:Obj} (h:Hp n0 w g o):g < w.heap.size:=(Array.getElem?_eq_some_iff.1 h.2).1
theorem Hp.bk {n0 g r:Nat} {w w':World} {o:Obj} (h:Hp n0 w g o) (hr:r < n0) (k:Bk r w w'):Hp n0 w' g o:=⟨h.1,(k.block g h.lt (by have:=h.1;omega)).trans h.2⟩
theorem Hp.alloc {n0 g:Nat} {w:World} {o:Obj} (h:Hp n0 w g o) (q:Obj):Hp n0 (w.alloc q) g o:=⟨h.1,(Below.heap_alloc _ _ _ h.lt).trans h.2⟩
theorem Hp.new {n0:Nat} {w:World} (h:n0≤w.heap.size) (q:Obj):Hp n0 (w.alloc q) w.heap.size q:=⟨h,by show (w.heap.push q)[w.heap.size]?=_;simp⟩
/-- a number within bounds -/
def PI (lo hi:Int) (u:Value):Prop:=∃ k:Int,u=.int .i64 k∧lo≤k∧k≤hi
/-- a short text -/
def PS (n:Nat) (u:Value):Prop:=∃ s:ByteArray,u=.string s∧s.size≤n
/-- a list of numbers that has been written out -/
def PL (n0:Nat) (w:World) (n:Nat) (arr:Array Value) (u:Value):Prop:=∃ g,u=.slice (some ⟨g,0,none⟩) n n∧Hp n0 w g (.cells arr 3)
/-- a place in such a list -/
def PA (n0:Nat) (w:World) (lo hi:Int) (u:Value):Prop:=∃ g k arr,u=.pointer (some ⟨g,k,none⟩)∧Hp n0 w g (.cells arr 3)∧∃ v:Int,arr[k]?=some (.int .i64 v)∧lo≤v∧v≤hi
theorem PL.bk {n0 n r:Nat} {w w':World} {arr:Array Value} {u:Value} (h:PL n0 w n arr u) (hr:r < n0) (k:Bk r w w'):PL n0 w' n arr u:=by
 obtain ⟨g,e,hg⟩:=h;exact ⟨g,e,hg.bk hr k⟩
theorem PA.bk {n0 r:Nat} {w w':World} {lo hi:Int} {u:Value} (h:PA n0 w lo hi u) (hr:r < n0) (k:Bk r w w'):PA n0 w' lo hi u:=by
 obtain ⟨g,k',arr,e,hg,hv⟩:=h;exact ⟨g,k',arr,e,hg.bk hr k,hv⟩
theorem bk_alloc (r:Nat) (w:World) (o:Obj):Bk r w (w.alloc o):=(Bk.refl r w).alloc o
end Go.Proofs.Ytggmjiddadjilaj
namespace Go.Proofs.Ytggmjiddadjilaj
open Go.RowKit

theorem lit7 (s0 s1 s2 s3 s4 s5 s6:ByteArray) (n:Nat) (h:s0.size≤n∧s1.size≤n∧s2.size≤n∧s3.size≤n∧s4.size≤n∧s5.size≤n∧s6.size≤n) (k:Int) (h0:0≤k) (h1:k < 7) :
  ∃ v:ByteArray,v.size≤n∧(#[Value.string s0,.string s1,.string s2,.string s3,.string s4,.string s5,.string s6]:Array Value)[k.toNat]?=some (.string v)∧∀ h,([Value.string s0,.string s1,.string s2,.string s3,.string s4,.string s5,.string s6]:List Value)[k.toNat]'h=.string v:=by
 rcases (by omega:k=0∨k=1∨k=2∨k=3∨k=4∨k=5∨k=6) with rfl | rfl | rfl | rfl | rfl | rfl | rfl
 ·exact ⟨s0,h.1,rfl,fun _=>rfl⟩
 ·exact ⟨s1,h.2.1,rfl,fun _=>rfl⟩
 ·exact ⟨s2,h.2.2.1,rfl,fun _=>rfl⟩
 ·exact ⟨s3,h.2.2.2.1,rfl,fun _=>rfl⟩
 ·exact ⟨s4,h.2.2.2.2.1,rfl,fun _=>rfl⟩
 ·exact ⟨s5,h.2.2.2.2.2.1,rfl,fun _=>rfl⟩
 ·exact ⟨s6,h.2.2.2.2.2.2,rfl,fun _=>rfl⟩
theorem toListNil {s:ByteArray} (h:s.size=0):s.toList=[]:=by
 rw [Lib.toList_data];exact List.eq_nil_of_length_eq_zero (by simpa using h)
theorem sizeNil {s:ByteArray} (h:s.toList=[]):s.size=0:=by
 rw [Lib.toList_data] at h;have:=congrArg List.length h;simpa using this
theorem three_size {s v:ByteArray} {q:Nat} (hs:s.size≤30) (hq:q≤s.size) (hv:v.size≤31):(s.extract 0 q ++ v ++ s.extract q s.size).size≤61:=by
 rw [ByteArray.size_append,ByteArray.size_append,ByteArray.size_extract,ByteArray.size_extract];omega
theorem newestT (w:World) (q:Obj):(w.alloc q).heap[w.heap.size]?=some q:=by show (w.heap.push q)[w.heap.size]?=_;simp

/-- the words that are drawn from, in the block g -/
def WordsAt (w:World) (g:Nat):Prop:=w.heap[g]?=some (.cells #[.string ⟨#[97]⟩,.string ⟨#[97,110]⟩,.string ⟨#[116,104,101]⟩,.string ⟨#[111,118,101,114]⟩,.string ⟨#[117,110,100,101,114]⟩,.string ⟨#[109,101,97,100,111,119]⟩,.string ⟨#[108,105,103,104,116,104,111,117,115,101]⟩] 9)

set_option maxRecDepth 100000 in
set_option maxHeartbeats 2000000 in
theorem l20Text_any (r B:Nat) (w:World) (h:Rd w r B) (hB:B≤900000) :
  Calls Try.prog 75 #[.pointer (some ⟨r,0,none⟩)] w fun e w'=>∃ s:ByteArray,e=.returned (.string s)∧s.size≤30∧Rd w' r (B+6)∧Bk r w w':=by
 have hlt:=h.lt
 have hr0:w.heap.size ≠ r:=by omega
 have HR:Hid (Rd w r B):=h
 clear h
 go_enter Try.func75,Try.ntmps75
 go_wp2_with fail
 refine (pick_any r B _ _ (Rd.alloc HR.out _) (by omega)).mono ?_
 rintro e w1 ⟨k1,rfl,hk1,hR1,hb1⟩
 obtain ⟨hk1a,hk1b⟩:=hk1 (by omega)
 have hz1:=hb1.size
 simp at hz1
 have W1:=Hid.intro ((hb1.block w.heap.size (by simp) hr0).trans (newestT _ _))
 have HR1:Hid (Rd w1 r (B+1)):=hR1
 have HB1:Hid (Bk r w w1):=Bk.trans (Bk.alloc (Bk.refl r w) _) hb1
 clear hk1 hR1 hb1
 have HW1:Hid (WordsAt w1 w.heap.size):=W1.out
 obtain ⟨q1,rfl⟩:=Int.eq_ofNat_of_zero_le hk1a
 clear W1
 go_wp2_with fail
 go_loopw [4,5,6] (fun s k _ W=>∃ (t:ByteArray) (q:Nat),s=.string t∧k=.int .i64 q∧t.size≤30∧q≤5∧w.heap.size+1≤W.heap.size∧Hid (Rd W r (B+6 - q))∧Hid (Bk r w W)∧Hid (WordsAt W w.heap.size)) (fun _ k _ _=>(intOf k).toNat)
 case atStart=>exact ⟨_,q1,rfl,rfl,by decide,by omega,by omega,Rd.mono HR1.out (by omega),HB1,HW1⟩
 case round =>
  obtain ⟨t,q,rfl,rfl,ht,hq,hsz,HRr,HBr,HWr⟩:=hrel
  by_cases hq0:q=0
  ·subst hq0
   go_wp2
   go_ret
   exact ⟨t,rfl,ht,HRr.out,HBr.out⟩
  ·have hq1:(0:Int) < (q:Int):=by omega
   go_wp2_with fail
   refine (pick_any r (B+6 - q) _ _ HRr.out (by omega)).mono ?_
   rintro e w2 ⟨k2,rfl,hk2,hR2,hb2⟩
   obtain ⟨hk2a,hk2b⟩:=hk2 (by omega)
   have W2:WordsAt w2 w.heap.size:=(hb2.block w.heap.size (by omega) hr0).trans HWr.out
   obtain ⟨v,hv,hl,_⟩:=lit7 ⟨#[97]⟩ ⟨#[97,110]⟩ ⟨#[116,104,101]⟩ ⟨#[111,118,101,114]⟩ ⟨#[117,110,100,101,114]⟩ ⟨#[109,101,97,100,111,119]⟩ ⟨#[108,105,103,104,116,104,111,117,115,101]⟩ 10 (by decide) k2 hk2a hk2b
   have hcv:w2.cell? ⟨w.heap.size,k2.toNat,none⟩=some (.string v):=(Joins.cell_of_block W2 _).trans hl
   have HW2:Hid (WordsAt w2 w.heap.size):=W2
   have HR2:Hid (Rd w2 r (B+6 - (q - 1))):=Rd.mono hR2 (by omega)
   have HB2:Hid (Bk r w w2):=Bk.trans HBr.out hb2
   have hz2:w.heap.size+1≤w2.heap.size:=by have:=hb2.size;omega
   clear hk2 hR2 hb2 W2 hl HRr HBr HWr
   by_cases h0:t.size=0
   ·have he:t.toList=[]:=toListNil h0
    go_wp2
    go_roundw
    case rel=>exact ⟨v,q - 1,rfl,by go_num,by omega,by omega,hz2,HR2,HB2,HW2⟩
    case measure=>simp [intOf];omega
   ·have he:¬ t.toList=[]:=fun h=>h0 (sizeNil h)
    have he2:t.toList.isEmpty=false:=by simpa using he
    by_cases h30:t.size+1+v.size≤30
    ·have h30':(t.size:Int)+1+(v.size:Int)≤30:=by omega
     go_wp2
     go_roundw
     case rel=>exact ⟨_,q - 1,rfl,by go_num,by rw [ByteArray.size_append,ByteArray.size_append];have:(ByteArray.mk #[32]).size=1:=rfl;omega,by omega,hz2,HR2,HB2,HW2⟩
     case measure=>simp [intOf];omega
    ·have h30':¬ (t.size:Int)+1+(v.size:Int)≤30:=by omega
     go_wp2
     go_roundw
     case rel=>exact ⟨t,q - 1,rfl,by go_num,ht,by omega,hz2,HR2,HB2,HW2⟩
     case measure=>simp [intOf];omega

set_option maxRecDepth 100000 in
set_option maxHeartbeats 2000000 in
theorem l20AnyText_any (r B:Nat) (n:Int) (hn:1≤n) (w:World) (h:Rd w r B) (hB:B≤800000) :
  Calls Try.prog 62 #[.pointer (some ⟨r,0,none⟩),.int .i64 n] w fun e w'=>∃ s:ByteArray,e=.returned (.string s)∧s.size≤61∧Rd w' r (B+9)∧Bk r w w':=by
 have hlt:=h.lt
 have HR:Hid (Rd w r B):=h
 clear h
 go_enter Try.func62,Try.ntmps62
 go_wp2_with fail
 refine (l20Text_any r B _ HR.out (by omega)).mono ?_
 rintro e w1 ⟨s,rfl,hs,hR1,hb1⟩
 have HR1:=Hid.intro hR1
 have HB1:=Hid.intro hb1
 have hz1:=hb1.size
 clear hR1 hb1
 go_wp2_with fail
 refine (pick_any r (B+6) _ _ HR1.out (by omega)).mono ?_
 rintro e w2 ⟨k2,rfl,hk2,hR2,hb2⟩
 obtain ⟨hk2a,hk2b⟩:=hk2 (by omega)
 have HR2:=Hid.intro hR2
 have HB2:=Hid.intro (Bk.trans HB1.out hb2)
 have hz2:=hb2.size
 clear hR2 hb2 hk2 HR1 HB1
 by_cases h2:0 < k2
 ·go_wp2
  go_ret
  exact ⟨s,rfl,by omega,Rd.mono HR2.out (by omega),HB2.out⟩
 ·go_wp2_with fail
  refine (pick_any r (B+7) _ _ HR2.out (by omega)).mono ?_
  rintro e w3 ⟨k3,rfl,hk3,hR3,hb3⟩
  obtain ⟨hk3a,hk3b⟩:=hk3 (by omega)
  obtain ⟨q,rfl⟩:=Int.eq_ofNat_of_zero_le hk3a
  have HR3:=Hid.intro hR3
  have HB3:=Hid.intro (Bk.trans HB2.out hb3)
  have hz3:=hb3.size
  clear hR3 hb3 hk3 HR2 HB2
  have hq:(q:Int)≤(s.size:Int):=by omega
  have hq':q≤s.size:=by omega
  go_wp2_with fail
  have hlr:w3.heap.size ≠ r:=by omega
  go_region_with (first
   | (go_at_call 34;refine (pick_any r (B+8) _ _ (Rd.drew (Rd.alloc HR3.out _)) (by omega)).mono ?_;rintro e w4 ⟨k4,rfl,hk4,hR4,hb4⟩;obtain ⟨hk4a,hk4b⟩:=hk4 (by omega);obtain ⟨v,hv,hl,_⟩:=lit7 ⟨#[32]⟩ ⟨#[32,32]⟩ ⟨#[65]⟩ ⟨#[49]⟩ ⟨#[45]⟩ ⟨#[0]⟩ ⟨#[97,98,99,100,101,102,103,104,105,106,97,98,99,100,101,102,103,104,105,106,97,98,99,100,101,102,103,104,105,106,120]⟩ 31 (by decide) k4 hk4a hk4b;have hcv:w4.cell? ⟨w3.heap.size,k4.toNat,none⟩=some (.string v):=(Joins.cell_of_block ((hb4.block w3.heap.size (by simp) hlr).trans (newestT _ _)) _).trans hl;have HR4:=Hid.intro hR4;have HB4:=Hid.intro (Bk.trans (Bk.drew (Bk.alloc HB3.out _)) hb4);clear hk4 hR4 hb4 hl)
   | (go_at_call 34;refine (pick_any r (B+8) _ _ (Rd.drew HR3.out) (by omega)).mono ?_;rintro e w4 ⟨k4,rfl,hk4,hR4,hb4⟩;obtain ⟨hk4a,hk4b⟩:=hk4 (by omega);obtain ⟨v,hv,hl,hge⟩:=lit7 ⟨#[32]⟩ ⟨#[32,32]⟩ ⟨#[65]⟩ ⟨#[49]⟩ ⟨#[45]⟩ ⟨#[0]⟩ ⟨#[97,98,99,100,101,102,103,104,105,106,97,98,99,100,101,102,103,104,105,106,97,98,99,100,101,102,103,104,105,106,120]⟩ 31 (by decide) k4 hk4a hk4b;have HR4:=Hid.intro hR4;have HB4:=Hid.intro (Bk.trans (Bk.drew HB3.out) hb4);clear hk4 hR4 hb4 hl))
  all_goals
   go_wp2
   go_ret
   exact ⟨_,rfl,three_size hs hq' hv,by first | exact HR4.out | exact Rd.alloc HR4.out _,by first | exact HB4.out | exact Bk.alloc HB4.out _⟩
end Go.Proofs.Ytggmjiddadjilaj
