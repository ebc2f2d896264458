/-
  PROVED HERE: the laws' own eqTblTable and what it calls say true of one and the same table in two places; nothing that was in memory is turned. Also: what is as it was but the blocks from one number on up to another one. Also: cells that are marked, as lists; a list in memory that grows. Also: columns and rows that are marked, as lists. Also: an owned table whose blocks lie between two bounds. Also: numbers between two others, as a Bool.
-/
import Derived.Test.YtggmjiddadjilaoD1
import Derived.Test.YtggmjiddadjilaoD4
import Derived.WalkLawsBesides
import Derived.WalkSpells
import Derived.Deep.RegionWith
import Derived.Test.YtggmjiddadjilaoRows
import Derived.WalkKit
import Derived.ProofKit
import Derived.Below
namespace Go.Proofs.Ytggmjiddadjilao
open Go.RowKit

set_option maxRecDepth 100000 in
theorem eqBrdLine_any (a b:Int) (w:World) :
  Calls Try.prog 120 #[.agg #[.int .i64 a,.int .i64 b],.agg #[.int .i64 a,.int .i64 b]] w fun e w'=>e=.returned (.bool true)∧Below w.heap.size w w':=by
 have ha:(a != a)=false:=by simp
 have hb:(b != b)=false:=by simp
 go_enter Try.func120,Try.ntmps120
 go_wp2
 go_ret
 exact ⟨rfl,k_alloc (k_alloc (Below.refl _ _) _) _⟩

set_option maxRecDepth 100000 in
theorem eqTblCol_any (a b:Int) (w:World) :
  Calls Try.prog 90 #[.agg #[.int .i64 a,.int .i64 b],.agg #[.int .i64 a,.int .i64 b]] w fun e w'=>e=.returned (.bool true)∧Below w.heap.size w w':=by
 have ha:(a != a)=false:=by simp
 have hb:(b != b)=false:=by simp
 go_enter Try.func90,Try.ntmps90
 go_wp2
 go_ret
 exact ⟨rfl,k_alloc (k_alloc (Below.refl _ _) _) _⟩

set_option maxRecDepth 100000 in
set_option maxHeartbeats 1000000 in
theorem eqTblCell_any (x:C) (w:World) :
  Calls Try.prog 115 #[.agg #[.string x.s,.int .i64 x.c,.int .i64 x.r,.int .i64 x.a1,.int .i64 x.b1,.int .i64 x.a2,.int .i64 x.b2,.int .i64 x.a3,.int .i64 x.b3,.int .i64 x.a4,.int .i64 x.b4],.agg #[.string x.s,.int .i64 x.c,.int .i64 x.r,.int .i64 x.a1,.int .i64 x.b1,.int .i64 x.a2,.int .i64 x.b2,.int .i64 x.a3,.int .i64 x.b3,.int .i64 x.a4,.int .i64 x.b4]] w fun e w'=>e=.returned (.bool true)∧Below w.heap.size w w':=by
 have hc:(x.c != x.c)=false:=by simp
 have hr:(x.r != x.r)=false:=by simp
 go_enter Try.func115,Try.ntmps115
 go_wp2_with fail
 refine (eqBrdLine_any _ _ _).mono ?_
 rintro e w1 ⟨rfl,hb1⟩
 obtain ⟨hc1,hf1⟩:=bcell hb1
 have hy1:w.heap.size+1 < w1.heap.size:=by have:=hb1.size;simp at this;omega
 have hx1:w.heap.size < w1.heap.size:=by omega
 have HB1:=Hid.intro (k_trans (k_alloc (k_alloc (Below.refl _ _) _) _) hb1)
 clear hb1
 go_wp2_with fail
 refine (eqBrdLine_any _ _ _).mono ?_
 rintro e w2 ⟨rfl,hb2⟩
 obtain ⟨hc2,hf2⟩:=bcell hb2
 have hy2:w.heap.size+1 < w2.heap.size:=by have:=hb2.size;omega
 have hx2:w.heap.size < w2.heap.size:=by omega
 have HB2:=Hid.intro (k_trans HB1.out hb2)
 clear hb2
 go_wp2_with fail
 refine (eqBrdLine_any _ _ _).mono ?_
 rintro e w3 ⟨rfl,hb3⟩
 obtain ⟨hc3,hf3⟩:=bcell hb3
 have hy3:w.heap.size+1 < w3.heap.size:=by have:=hb3.size;omega
 have hx3:w.heap.size < w3.heap.size:=by omega
 have HB3:=Hid.intro (k_trans HB2.out hb3)
 clear hb3
 go_wp2_with fail
 refine (eqBrdLine_any _ _ _).mono ?_
 rintro e w4 ⟨rfl,hb4⟩
 obtain ⟨hc4,hf4⟩:=bcell hb4
 have hy4:w.heap.size+1 < w4.heap.size:=by have:=hb4.size;omega
 have hx4:w.heap.size < w4.heap.size:=by omega
 have HB4:=Hid.intro (k_trans HB3.out hb4)
 clear hb4
 go_wp2
 go_ret
 exact ⟨rfl,HB4.out⟩

set_option maxRecDepth 100000 in
set_option maxHeartbeats 2000000 in
theorem eqTblColS_any (v1 v2:Value) (ps:List (Int × Int)) (w:World) {z1 z2:Nat} (h1:ColsAt w z1 v1 ps) (h2:ColsAt w z2 v2 ps) :
  Calls Try.prog 59 #[v1,v2] w fun e w'=>e=.returned (.bool true)∧Below w.heap.size w w':=by
 obtain ⟨a1,cap1,rfl,hlen⟩:=At.form h1
 obtain ⟨a2,cap2,rfl,_⟩:=At.form h2
 unfold maxLen at hlen
 have hne:((ps.length:Int) != (ps.length:Int))=false:=by simp
 have H1:=Hid.intro h1
 have H2:=Hid.intro h2
 clear h1 h2
 go_enter Try.func59,Try.ntmps59
 go_wp2_with fail
 go_loopw [5] (fun i W=>∃ k:Nat,k≤ps.length∧i=.int .i64 k∧Hid (Below w.heap.size w W)) (fun i _=>ps.length - (intOf i).toNat)
 case atStart=>exact ⟨0,Nat.zero_le _,rfl,Below.refl _ _⟩
 case round =>
  obtain ⟨k,hk,rfl,HB⟩:=hrel
  by_cases hlt:k < ps.length
  ·have hlt':(k:Int) < (ps.length:Int):=by omega
   have h0':(0:Int)≤(k:Int):=by omega
   obtain ⟨b1,off1,cap1',e1,hc11,hc12,hbl1,x0,x1⟩:=At.get (H1.out.kept HB.out) hlt
   simp only [Value.slice.injEq,true_and] at e1
   obtain ⟨rfl,rfl⟩:=e1
   unfold maxLen at hc12
   obtain ⟨b2,off2,cap2',e2,hc21,hc22,hbl2,y0,y1⟩:=At.get (H2.out.kept HB.out) hlt
   simp only [Value.slice.injEq,true_and] at e2
   obtain ⟨rfl,rfl⟩:=e2
   unfold maxLen at hc22
   generalize ps.getD k (0,0)=x at x0 x1 y0 y1
   go_wp2_with fail
   go_region_with (go_at_call 90;refine (eqTblCol_any _ _ _).mono ?_;rintro e w1 ⟨rfl,hb1⟩;have HB1:=Hid.intro (k_trans (k_drew HB.out) hb1);clear hb1)
   all_goals
    go_wp2
    go_roundw
    case rel=>exact ⟨k+1,by omega,by go_num,HB1⟩
    case measure=>simp [intOf];omega
  ·go_wp2
   go_ret
   exact ⟨rfl,HB.out⟩

set_option maxRecDepth 100000 in
set_option maxHeartbeats 2000000 in
theorem eqTblCellS_any (v1 v2:Value) (cs:List C) (w:World) {z1 z2:Nat} (h1:CellsAt w z1 v1 cs) (h2:CellsAt w z2 v2 cs) :
  Calls Try.prog 109 #[v1,v2] w fun e w'=>e=.returned (.bool true)∧Below w.heap.size w w':=by
 obtain ⟨a1,cap1,rfl,hlen⟩:=At.form h1
 obtain ⟨a2,cap2,rfl,_⟩:=At.form h2
 unfold maxLen at hlen
 have hne:((cs.length:Int) != (cs.length:Int))=false:=by simp
 have H1:=Hid.intro h1
 have H2:=Hid.intro h2
 clear h1 h2
 go_enter Try.func109,Try.ntmps109
 go_wp2_with fail
 go_loopw [5] (fun i W=>∃ k:Nat,k≤cs.length∧i=.int .i64 k∧Hid (Below w.heap.size w W)) (fun i _=>cs.length - (intOf i).toNat)
 case atStart=>exact ⟨0,Nat.zero_le _,rfl,Below.refl _ _⟩
 case round =>
  obtain ⟨k,hk,rfl,HB⟩:=hrel
  by_cases hlt:k < cs.length
  ·have hlt':(k:Int) < (cs.length:Int):=by omega
   have h0':(0:Int)≤(k:Int):=by omega
   obtain ⟨b1,off1,cap1',e1,hc11,hc12,hbl1,hx,_⟩:=At.get (H1.out.kept HB.out) hlt
   simp only [Value.slice.injEq,true_and] at e1
   obtain ⟨rfl,rfl⟩:=e1
   unfold maxLen at hc12
   obtain ⟨b2,off2,cap2',e2,hc21,hc22,hbl2,hy,_⟩:=At.get (H2.out.kept HB.out) hlt
   simp only [Value.slice.injEq,true_and] at e2
   obtain ⟨rfl,rfl⟩:=e2
   unfold maxLen at hc22
   generalize cs.getD k dC=x at hx hy
   obtain ⟨x0,x1,x2,x3,x4,x5,x6,x7,x8,x9,x10⟩:=hx
   obtain ⟨y0,y1,y2,y3,y4,y5,y6,y7,y8,y9,y10⟩:=hy
   go_wp2_with fail
   go_region_with (go_at_call 115;refine (eqTblCell_any x _).mono ?_;rintro e w1 ⟨rfl,hb1⟩;have HB1:=Hid.intro (k_trans (k_drew HB.out) hb1);clear hb1)
   all_goals
    go_wp2
    go_roundw
    case rel=>exact ⟨k+1,by omega,by go_num,HB1⟩
    case measure=>simp [intOf];omega
  ·go_wp2
   go_ret
   exact ⟨rfl,HB.out⟩

set_option maxRecDepth 100000 in
set_option maxHeartbeats 1000000 in
theorem eqTblRow_any (u1 u2:Value) (cs:List C) (q:Bool) (w:World) {z1 z2:Nat} (h1:CellsAt w z1 u1 cs) (h2:CellsAt w z2 u2 cs) :
  Calls Try.prog 91 #[.agg #[u1,.bool q],.agg #[u2,.bool q]] w fun e w'=>e=.returned (.bool true)∧Below w.heap.size w w':=by
 obtain ⟨a1,cap1,rfl,_⟩:=At.form h1
 obtain ⟨a2,cap2,rfl,_⟩:=At.form h2
 have hq:(q != q)=false:=by simp
 have H1:=Hid.intro (h1.kept (k_alloc (k_alloc (Below.refl _ _) (.cells #[.slice a1 cs.length cap1,.bool q] 88)) (.cells #[.slice a2 cs.length cap2,.bool q] 88)))
 have H2:=Hid.intro (h2.kept (k_alloc (k_alloc (Below.refl _ _) (.cells #[.slice a1 cs.length cap1,.bool q] 88)) (.cells #[.slice a2 cs.length cap2,.bool q] 88)))
 clear h1 h2
 go_enter Try.func91,Try.ntmps91
 go_wp2_with fail
 refine (eqTblCellS_any _ _ cs _ H1.out H2.out).mono ?_
 rintro e w1 ⟨rfl,hb1⟩
 obtain ⟨hc1,hf1⟩:=bcell hb1
 have hy1:w.heap.size+1 < w1.heap.size:=by have:=hb1.size;simp at this;omega
 have hx1:w.heap.size < w1.heap.size:=by omega
 have HB1:=Hid.intro (k_trans (k_alloc (k_alloc (Below.refl _ _) _) _) hb1)
 clear hb1
 go_wp2
 go_ret
 exact ⟨rfl,HB1.out⟩

set_option maxRecDepth 100000 in
set_option maxHeartbeats 2000000 in
theorem eqTblRowS_any (v1 v2:Value) (rs:List R) (w:World) {z1 z2:Nat} (h1:RowsAt w z1 v1 rs) (h2:RowsAt w z2 v2 rs) :
  Calls Try.prog 60 #[v1,v2] w fun e w'=>e=.returned (.bool true)∧Below w.heap.size w w':=by
 obtain ⟨a1,cap1,rfl,hlen⟩:=At.form h1
 obtain ⟨a2,cap2,rfl,_⟩:=At.form h2
 unfold maxLen at hlen
 have hne:((rs.length:Int) != (rs.length:Int))=false:=by simp
 have H1:=Hid.intro h1
 have H2:=Hid.intro h2
 clear h1 h2
 go_enter Try.func60,Try.ntmps60
 go_wp2_with fail
 go_loopw [5] (fun i W=>∃ k:Nat,k≤rs.length∧i=.int .i64 k∧Hid (Below w.heap.size w W)) (fun i _=>rs.length - (intOf i).toNat)
 case atStart=>exact ⟨0,Nat.zero_le _,rfl,Below.refl _ _⟩
 case round =>
  obtain ⟨k,hk,rfl,HB⟩:=hrel
  by_cases hlt:k < rs.length
  ·have hlt':(k:Int) < (rs.length:Int):=by omega
   have h0':(0:Int)≤(k:Int):=by omega
   obtain ⟨b1,off1,cap1',e1,hc11,hc12,hbl1,u1,x0,x1,x2⟩:=At.get (H1.out.kept HB.out) hlt
   simp only [Value.slice.injEq,true_and] at e1
   obtain ⟨rfl,rfl⟩:=e1
   unfold maxLen at hc12
   obtain ⟨b2,off2,cap2',e2,hc21,hc22,hbl2,u2,y0,y1,y2⟩:=At.get (H2.out.kept HB.out) hlt
   simp only [Value.slice.injEq,true_and] at e2
   obtain ⟨rfl,rfl⟩:=e2
   unfold maxLen at hc22
   generalize rs.getD k dR=x at x1 x2 y1 y2
   obtain ⟨c1,d1,rfl,_⟩:=At.form x2
   obtain ⟨c2,d2,rfl,_⟩:=At.form y2
   have X2:=Hid.intro x2
   have Y2:=Hid.intro y2
   clear x2 y2
   go_wp2_with fail
   go_region_with (go_at_call 91;refine (eqTblRow_any _ _ x.cells x.whole _ (X2.out.kept (k_drew (Below.refl _ _))) (Y2.out.kept (k_drew (Below.refl _ _)))).mono ?_;rintro e w1 ⟨rfl,hb1⟩;have HB1:=Hid.intro (k_trans (k_drew HB.out) hb1);clear hb1)
   all_goals
    go_wp2
    go_roundw
    case rel=>exact ⟨k+1,by omega,by go_num,HB1⟩
    case measure=>simp [intOf];omega
  ·go_wp2
   go_ret
   exact ⟨rfl,HB.out⟩

set_option maxRecDepth 100000 in
set_option maxHeartbeats 1000000 in
theorem eqTblTable_any (v1 v2:Value) (t:T) (w:World) {z1 z2:Nat} (h1:TblAt w z1 v1 t) (h2:TblAt w z2 v2 t) :
  Calls Try.prog 26 #[v1,v2] w fun e w'=>e=.returned (.bool true)∧Below w.heap.size w w':=by
 obtain ⟨vc1,vr1,rfl,h1c,h1r⟩:=h1
 obtain ⟨vc2,vr2,rfl,h2c,h2r⟩:=h2
 obtain ⟨ac1,cc1,rfl,_⟩:=At.form h1c
 obtain ⟨ar1,cr1,rfl,_⟩:=At.form h1r
 obtain ⟨ac2,cc2,rfl,_⟩:=At.form h2c
 obtain ⟨ar2,cr2,rfl,_⟩:=At.form h2r
 have hh:(t.head != t.head)=false:=by simp
 have hf:(t.foot != t.foot)=false:=by simp
 have hg:(t.gap != t.gap)=false:=by simp
 have K:=Hid.intro (k_alloc (k_alloc (Below.refl w.heap.size w) (.cells #[.slice ac1 t.cols.length cc1,.int .i64 t.head,.int .i64 t.foot,.slice ar1 t.rows.length cr1,.int .i64 t.gap] 56)) (.cells #[.slice ac2 t.cols.length cc2,.int .i64 t.head,.int .i64 t.foot,.slice ar2 t.rows.length cr2,.int .i64 t.gap] 56))
 have HC1:=Hid.intro (h1c.kept K.out)
 have HC2:=Hid.intro (h2c.kept K.out)
 have HR1:=Hid.intro (h1r.kept K.out)
 have HR2:=Hid.intro (h2r.kept K.out)
 clear h1c h1r h2c h2r
 go_enter Try.func26,Try.ntmps26
 go_wp2_with fail
 refine (eqTblColS_any _ _ t.cols _ HC1.out HC2.out).mono ?_
 rintro e w1 ⟨rfl,hb1⟩
 obtain ⟨hc1,hf1⟩:=bcell hb1
 have hy1:w.heap.size+1 < w1.heap.size:=by have:=hb1.size;simp at this;omega
 have hx1:w.heap.size < w1.heap.size:=by omega
 have HB1:=Hid.intro (k_trans K.out hb1)
 have HS1:=Hid.intro (HR1.out.kept hb1)
 have HS2:=Hid.intro (HR2.out.kept hb1)
 clear hb1
 go_wp2_with fail
 refine (eqTblRowS_any _ _ t.rows _ HS1.out HS2.out).mono ?_
 rintro e w2 ⟨rfl,hb2⟩
 obtain ⟨hc2,hf2⟩:=bcell hb2
 have hy2:w.heap.size+1 < w2.heap.size:=by have:=hb2.size;omega
 have hx2:w.heap.size < w2.heap.size:=by omega
 have HB2:=Hid.intro (k_trans HB1.out hb2)
 clear hb2
 go_wp2
 go_ret
 exact ⟨rfl,HB2.out⟩
end Go.Proofs.Ytggmjiddadjilao
namespace Go.Proofs.Ytggmjiddadjilao
open Go.RowKit

/-- what lies ahead of B, or at D and behind it, is as it was -/
structure Out (B D:Nat) (w w':World):Prop where
 below:Below B w w'
 block:∀ k,D≤k→k < w.heap.size→w'.heap[k]?=w.heap[k]?
theorem Out.refl (B D:Nat) (w:World):Out B D w w:=⟨Below.refl _ _,fun _ _ _=>rfl⟩
theorem Out.set {B D:Nat} {a w:World} (h:Out B D a w) {p:Addr} (h1:B≤p.block) (h2:p.block < D) (v:Value):Out B D a (w.setCell p v) :=
 ⟨h.below.setCell h1 v,fun k h3 h4=>(Below.heap_setCell _ _ _ _ (by omega)).trans (h.block k h3 h4)⟩
end Go.Proofs.Ytggmjiddadjilao
namespace Go.Proofs.Ytggmjiddadjilao
open Go.RowKit

/-- a mark's digits, and a mark -/
def digs (n:Nat) (out:ByteArray):ByteArray:=if n=0 then out else digs (n / 10) (⟨#[48+UInt8.ofNat (n % 10)]⟩ ++ out)
termination_by n
decreasing_by omega
def mt (k:Nat):ByteArray:=⟨#[109]⟩ ++ digs k ⟨#[]⟩
/-- a cell of marks -/
def mkC (k:Nat):C:=⟨mt k,(k:Int)+1,(k:Int)+2,(k:Int)+3,(k:Int)+4,(k:Int)+5,(k:Int)+6,(k:Int)+7,(k:Int)+8,(k:Int)+9,(k:Int)+10⟩
def mkCs (n k:Nat):List C:=(List.range n).map fun i=>mkC (k+11 * i)
theorem mkCs_len (n k:Nat):(mkCs n k).length=n:=by simp [mkCs]
theorem mkCs_get {n k i:Nat} (h:i < n):(mkCs n k).getD i dC=mkC (k+11 * i):=by simp [mkCs,List.getD,h]
theorem put11_nextF {arr:Array Value} {f:Nat→C} {k n:Nat} (hs:n * 11≤arr.size) (hk:k < n) (h:∀ i,i < k→CellArr arr (i * 11) (f i)) :
  ∀ i,i < k+1→CellArr (put11 arr (k * 11) (f k)) (i * 11) (f i):=by
 intro i hi
 rcases Nat.lt_or_eq_of_le (Nat.lt_succ_iff.1 hi) with h1 | rfl
 ·exact (h i h1).of_same (fun p hp1 hp2=>put11_before _ _ _ _ (by omega))
 ·exact put11_at _ _ _ (by omega)
theorem flat_take {α:Type} (f:α→List Value) (sz:Nat) (hf:∀ x,(f x).length=sz) (l:List α) (arr:Array Value) (hs:l.length * sz≤arr.size) (h:∀ i,(hi:i < l.length)→∀ j,j < sz→arr[i * sz+j]?=(f l[i])[j]?):arr.toList.take (l.length * sz)=l.flatMap f:=by
 have e:=flat_arr f sz hf l (arr.extract 0 (l.length * sz)) (by rw [Array.size_extract];omega) (fun i hi j hj=>by
  have hlt:i * sz+j < l.length * sz:=by
   have:(i+1) * sz≤l.length * sz:=Nat.mul_le_mul_right sz hi
   rw [Nat.succ_mul] at this
   omega
  rw [Array.getElem?_extract,if_pos (by omega),Nat.zero_add]
  exact h i hi j hj)
 rw [← e]
 simp [List.take_take]
theorem own_take {arr:Array Value} {cs:List C} (hs:cs.length * 11≤arr.size) (h:∀ i,i < cs.length→CellArr arr (i * 11) (cs.getD i dC)):arr.toList.take (cs.length * 11)=cs.flatMap cellVs:=by
 refine flat_take cellVs 11 (fun _=>rfl) cs arr hs (fun i hi j hj=>?_)
 have e:=h i hi
 rw [getD_get dC hi] at e
 obtain ⟨h0,h1,h2,h3,h4,h5,h6,h7,h8,h9,h10⟩:=e
 match j,hj with
 | 0,_=>exact h0
 | 1,_=>exact h1
 | 2,_=>exact h2
 | 3,_=>exact h3
 | 4,_=>exact h4
 | 5,_=>exact h5
 | 6,_=>exact h6
 | 7,_=>exact h7
 | 8,_=>exact h8
 | 9,_=>exact h9
 | 10,_=>exact h10
theorem grown_refl (w:World) (r:Option Nat):w.grownBy w r:=⟨rfl,rfl,rfl,Nat.le_refl _,fun _ _ _=>rfl⟩
theorem grown_trans {a b c:World} {r:Option Nat} (h:a.grownBy b r) (k:b.grownBy c r):a.grownBy c r :=
 ⟨k.os.trans h.os,k.tape.trans h.tape,k.output.trans h.output,Nat.le_trans h.size k.size,fun i hi hr=>(k.block i (Nat.lt_of_lt_of_le hi h.size) hr).trans (h.block i hi hr)⟩
theorem grown_below {a b:World} {r:Option Nat} (h:Below a.heap.size a b):a.grownBy b r:=⟨h.os,h.tape,h.output,h.size,fun k hk _=>h.block k hk⟩
theorem grown_set {a w:World} {g:Nat} (h:a.grownBy w (some g)) {p:Addr} (hp:p.block=g) (v:Value):a.grownBy (w.setCell p v) (some g) :=
 ⟨h.os,h.tape,h.output,by rw [sizeSet];exact h.size,fun k hk hr=>(Below.heap_setCell _ _ _ _ (fun e=>hr (by rw [e,hp]))).trans (h.block k hk hr)⟩
end Go.Proofs.Ytggmjiddadjilao
namespace Go.Proofs.Ytggmjiddadjilao
open Go.RowKit

theorem grown_out {w w':World} {r:Option Nat} {B D:Nat} (h:w.grownBy w' r) (hB:B≤w.heap.size) (hr:∀ b,r=some b→B≤b∧b < D):Out B D w w' :=
 ⟨⟨h.os,h.tape,h.output,h.size,fun k hk=>h.block k (by omega) (fun e=>by have:=hr k e.symm;omega)⟩,fun k h1 h2=>h.block k h2 (fun e=>by have:=hr k e.symm;omega)⟩
theorem Out.trans {B D:Nat} {a b c:World} (h:Out B D a b) (k:Out B D b c):Out B D a c :=
 ⟨h.below.trans k.below,fun i h1 h2=>(k.block i h1 (Nat.lt_of_lt_of_le h2 h.below.size)).trans (h.block i h1 h2)⟩
theorem Out.alloc {B D:Nat} {a w:World} (h:Out B D a w) (hB:B≤w.heap.size) (o:Obj):Out B D a (w.alloc o) :=
 ⟨h.below.alloc hB o,fun k h1 h2=>(Below.heap_alloc _ _ _ (Nat.lt_of_lt_of_le h2 h.below.size)).trans (h.block k h1 h2)⟩
def mkCol (k:Nat):Int × Int:=((k:Int),(k:Int)+1)
def mkCols (n k:Nat):List (Int × Int):=(List.range n).map fun i=>mkCol (k+2 * i)
theorem mkCols_len (n k:Nat):(mkCols n k).length=n:=by simp [mkCols]
theorem mkCols_get {n k i:Nat} (h:i < n):(mkCols n k).getD i (0,0)=mkCol (k+2 * i):=by simp [mkCols,List.getD,h]
def ColArrF (arr:Array Value) (f:Nat→Int × Int) (k:Nat):Prop:=∀ i,i < k→arr[i * 2]?=some (.int .i64 (f i).1)∧arr[i * 2+1]?=some (.int .i64 (f i).2)
theorem ColArrF.next {arr:Array Value} {f:Nat→Int × Int} {k n:Nat} (h:ColArrF arr f k) (hs:arr.size=n * 2) (hk:k < n) :
  ColArrF ((arr.setIfInBounds (k * 2) (.int .i64 (f k).1)).setIfInBounds (k * 2+1) (.int .i64 (f k).2)) f (k+1):=by
 obtain ⟨h1,h2,h3⟩:=two_next hs hk (.int .i64 (f k).1) (.int .i64 (f k).2)
 intro i hi
 rcases Nat.lt_or_eq_of_le (Nat.lt_succ_iff.1 hi) with hlt | rfl
 ·exact ⟨(h1 _ (by omega)).trans (h i hlt).1,(h1 _ (by omega)).trans (h i hlt).2⟩
 ·exact ⟨h2,h3⟩
theorem own_colsT {arr:Array Value} {ps:List (Int × Int)} (hs:ps.length * 2≤arr.size) (h:ColArrF arr (fun i=>ps.getD i (0,0)) ps.length):arr.toList.take (ps.length * 2)=ps.flatMap colVs:=by
 refine flat_take colVs 2 (fun _=>rfl) ps arr hs (fun i hi j hj=>?_)
 have e:=h i hi
 dsimp only at e
 rw [getD_get (0,0) hi] at e
 match j,hj with
 | 0,_=>exact e.1
 | 1,_=>exact e.2

/-- which number a row's marks begin with -/
def kAt (rs:List R) (k:Nat):Nat→Nat
 | 0=>k
 | i+1=>kAt rs k i+11 * (rs.getD i dR).cells.length+1
def mkR (k:Nat) (r:R):R:=⟨mkCs r.cells.length k,decide ((k+11 * r.cells.length) % 3=0)⟩
def dU:Value × R:=(.slice none 0 0,dR)
/-- the first i of rows marked -/
def mkU (ur:List (Value × R)) (k:Nat):Nat→List (Value × R)
 | 0=>ur
 | i+1=>(mkU ur k i).set i ((ur.getD i dU).1,mkR (kAt (ur.map (·.2)) k i) (ur.getD i dU).2)
theorem mkU_len (ur:List (Value × R)) (k:Nat):∀ i,(mkU ur k i).length=ur.length
 | 0=>rfl
 | i+1=>by rw [mkU,List.length_set,mkU_len ur k i]
theorem mkU_old (ur:List (Value × R)) (k:Nat):∀ i j,i≤j→(mkU ur k i)[j]?=ur[j]?
 | 0,_,_=>rfl
 | i+1,j,h=>by rw [mkU,List.getElem?_set_ne (by omega),mkU_old ur k i j (by omega)]
theorem mkU_new (ur:List (Value × R)) (k:Nat):∀ i j,j < i→j < ur.length→(mkU ur k i)[j]?=some ((ur.getD j dU).1,mkR (kAt (ur.map (·.2)) k j) (ur.getD j dU).2)
 | 0,_,h,_=>absurd h (Nat.not_lt_zero _)
 | i+1,j,h,hj=>by
  rw [mkU]
  rcases (by omega:j < i∨j=i) with hlt | rfl
  ·rw [List.getElem?_set_ne (by omega),mkU_new ur k i j hlt hj]
  ·rw [List.getElem?_set_self (by rw [mkU_len];exact hj)]
theorem kAt_mono (rs:List R) (k:Nat):∀ i j,i≤j→kAt rs k i≤kAt rs k j:=by
 intro i j h
 induction j with
 | zero=>obtain rfl:i=0:=by omega
         exact Nat.le_refl _
 | succ j ih =>
  rcases (by omega:i≤j∨i=j+1) with hl | rfl
  ·have:=ih hl;show _≤kAt rs k j+_+1;omega
  ·exact Nat.le_refl _
/-- one row of a table that is owned: its cells marked, and whether it is whole -/
theorem OwnR.mark {w w1:World} {base:Nat} {v:Value} {ur:List (Value × R)} (h:OwnR w base v ur) {i g cap:Nat} (hv:v=.slice (some ⟨g,0,none⟩) ur.length cap) {p:Value × R} (hi:ur[i]?=some p) {r:R} (hc:OwnC w1 base p.1 r.cells) (k:w.grownBy w1 p.1.ownBlock) :
  OwnR (w1.setCell ⟨g,i * 2+1,none⟩ (.bool r.whole)) base v (ur.set i (p.1,r)):=by
 have hil:i < ur.length:=(List.getElem?_eq_some_iff.1 hi).1
 have hpm:p ∈ ur:=List.mem_of_getElem? hi
 have hne:v.ownBlock=none∨v.ownBlock ≠ p.1.ownBlock:=row_ne h.own (h.cells p hpm) (by decide)
 have hvg:v.ownBlock=some g:=by rw [hv];rfl
 have K1:Off 0 none p.1.ownBlock w w1:=Off.grown k
 have h1:=row_off h.own K1 (Nat.zero_le _) (.inr (by rw [hvg];simp)) hne
 have hS:Off 0 (some g) none w1 (w1.setCell ⟨g,i * 2+1,none⟩ (.bool r.whole)):=Off.set w1 ⟨g,i * 2+1,none⟩ rfl _
 have hcw:OwnC (w1.setCell ⟨g,i * 2+1,none⟩ (.bool r.whole)) base p.1 r.cells:=by
  refine row_off hc hS (Nat.zero_le _) ?_ ?_
  ·rcases row_ne hc h1 (by decide) with e | e
   ·exact .inl e
   ·exact .inr (by rw [← hvg];exact e)
  ·rcases hb:p.1.ownBlock with _ | b
   ·exact .inl rfl
   ·exact .inr (by simp)
 refine ⟨?_,fun q hq=>?_,?_⟩
 ·rcases h1.2 with ⟨e,_⟩ | ⟨g',cap',cur,e,hg',hcur,a1,a2,a3,a4⟩
  ·rw [hv] at e;simp at e
  ·rw [hv] at e
   simp only [Value.slice.injEq,Option.some.injEq,Addr.mk.injEq,and_true,true_and] at e
   obtain ⟨rfl,rfl⟩:=e
   refine ⟨by rw [flat_len rowVs 2 (fun _=>rfl)],.inr ⟨g,cap,cur.setIfInBounds (i * 2+1) (.bool r.whole),by rw [List.length_set];exact hv,hg',setB hcur _,by rw [List.length_set];exact a1,a2,by rw [Array.size_setIfInBounds];exact a3,?_⟩⟩
   refine flat_take rowVs 2 (fun _=>rfl) (ur.set i (p.1,r)) (cur.setIfInBounds (i * 2+1) (.bool r.whole)) (by rw [List.length_set,Array.size_setIfInBounds,a3];omega) (fun j hj0 m hm=>?_)
   have hj:j < ur.length:=by rw [List.length_set] at hj0;exact hj0
   have hold:cur[j * 2+m]?=(rowVs ur[j])[m]?:=by
    have e:=flat_get rowVs 2 (fun _=>rfl) ur j hj m hm
    rw [← a4,List.getElem?_take_of_lt (by omega),Array.getElem?_toList] at e
    exact e
   by_cases hji:j=i
   ·subst hji
    have ep:ur[j]=p:=by rw [List.getElem?_eq_getElem hj] at hi;exact Option.some.inj hi
    rw [List.getElem_set_self]
    match m,hm with
    | 0,_ =>
     rw [Array.getElem?_setIfInBounds_ne (by omega),hold,ep]
     rfl
    | 1,_ =>
     rw [Array.getElem?_setIfInBounds_self_of_lt (by rw [a3];omega)]
     rfl
   ·rw [List.getElem_set_ne (by omega),Array.getElem?_setIfInBounds_ne (by omega)]
    exact hold
 ·obtain ⟨j,hj0,rfl⟩:=List.mem_iff_getElem.1 hq
  have hj:j < ur.length:=by rw [List.length_set] at hj0;exact hj0
  by_cases hji:j=i
  ·subst hji
   rw [List.getElem_set_self]
   exact hcw
  ·rw [List.getElem_set_ne (by omega)]
   have hap:ur[j].1.ownBlock=none∨ur[j].1.ownBlock ≠ p.1.ownBlock:=by
    have ep:ur[i]=p:=by rw [List.getElem?_eq_getElem hil] at hi;exact Option.some.inj hi
    have hp:=List.pairwise_iff_getElem.1 h.apart
    rcases Nat.lt_or_gt_of_ne hji with hl | hl
    ·rw [← ep];exact hp j i hj hil hl
    ·have:=hp i j hil hj hl
     rw [ep] at this
     rcases hb:ur[j].1.ownBlock with _ | b
     ·exact .inl rfl
     ·refine .inr (fun e=>?_)
      rcases this with e1 | e1
      ·rw [e1] at e;cases e
      ·exact e1 (e.symm.trans hb.symm)
   have c1:=row_off (h.cells _ (List.getElem_mem hj)) K1 (Nat.zero_le _) (by rcases hb:ur[j].1.ownBlock with _ | b;exact .inl rfl;exact .inr (by simp)) hap
   refine row_off c1 hS (Nat.zero_le _) ?_ (by rcases hb:ur[j].1.ownBlock with _ | b;exact .inl rfl;exact .inr (by simp))
   rcases row_ne c1 h1 (by decide) with e | e
   ·exact .inl e
   ·exact .inr (by rw [← hvg];exact e)
 ·rw [List.pairwise_iff_getElem]
  have hp:=List.pairwise_iff_getElem.1 h.apart
  have hfst:∀ j,(hj:j < ur.length)→((ur.set i (p.1,r))[j]'(by rw [List.length_set];exact hj)).1=ur[j].1:=fun j hj=>by
   by_cases hji:j=i
   ·subst hji
    rw [List.getElem_set_self,show ur[j]=p by rw [List.getElem?_eq_getElem hj] at hi;exact Option.some.inj hi]
   ·rw [List.getElem_set_ne (by omega)]
  intro a b ha0 hb0 hab
  have ha:a < ur.length:=by rw [List.length_set] at ha0;exact ha0
  have hb:b < ur.length:=by rw [List.length_set] at hb0;exact hb0
  rw [hfst a ha,hfst b hb]
  exact hp a b ha hb hab
end Go.Proofs.Ytggmjiddadjilao
namespace Go.Proofs.Ytggmjiddadjilao
open Go.RowKit

theorem map_snd_get {ur:List (Value × R)} {i:Nat} {p:Value × R} (h:ur[i]?=some p):(ur.map (·.2)).getD i dR=p.2:=by simp [List.getD,h]
theorem own_get {w:World} {base:Nat} {v:Value} {ur:List (Value × R)} (h:OwnR w base v ur) {i:Nat} {p:Value × R} (hi:ur[i]?=some p):∃ g cap cur,v=.slice (some ⟨g,0,none⟩) ur.length cap∧ur.length≤cap∧cap≤maxLen∧g < w.heap.size∧base≤g∧w.heap[g]?=some (.cells cur 88)∧cur.size=cap * 2∧cur[i * 2]?=some p.1∧cur[i * 2+1]?=some (.bool p.2.whole):=by
 have hil:i < ur.length:=(List.getElem?_eq_some_iff.1 hi).1
 have ep:ur[i]=p:=by rw [List.getElem?_eq_getElem hil] at hi;exact Option.some.inj hi
 rcases h.own.2 with ⟨_,e⟩ | ⟨g,cap,cur,e,hg,hc,a1,a2,a3,a4⟩
 ·omega
 ·have hold:∀ m,m < 2→cur[i * 2+m]?=(rowVs p)[m]?:=fun m hm=>by
   have e:=flat_get rowVs 2 (fun _=>rfl) ur i hil m hm
   rw [← a4,List.getElem?_take_of_lt (by omega),Array.getElem?_toList,ep] at e
   exact e
  exact ⟨g,cap,cur,e,a1,a2,(Array.getElem?_eq_some_iff.1 hc).1,hg,hc,a3,hold 0 (by omega),hold 1 (by omega)⟩

/-- what is no row and no cell stays -/
def Kty (w w':World):Prop:=∀ (j:Nat) (cur:Array Value) (ty:TypeId),ty ≠ 88→ty ≠ 62→w.heap[j]?=some (.cells cur ty)→w'.heap[j]?=some (.cells cur ty)
theorem Kty.refl (w:World):Kty w w:=fun _ _ _ _ _ h=>h
theorem Kty.trans {a b c:World} (h:Kty a b) (k:Kty b c):Kty a c:=fun j cur ty h1 h2 h3=>k j cur ty h1 h2 (h j cur ty h1 h2 h3)
theorem Kty.cells {w w':World} {B m:Nat} {u:Value} {xs:List Value} (h:w.ownsRow B 62 11 u m xs) (k:w.grownBy w' u.ownBlock):Kty w w':=fun j cur ty _ h2 h3=>by
 refine (k.block j (Array.getElem?_eq_some_iff.1 h3).1 (fun e=>?_)).trans h3
 rcases row_ne_block h h3 (fun e=>h2 e.symm) with h4 | h4
 ·rw [h4] at e;cases e
 ·exact h4 e.symm
theorem Kty.set {w:World} {g o:Nat} {arr:Array Value} (h:w.heap[g]?=some (.cells arr 88)) (v:Value):Kty w (w.setCell ⟨g,o,none⟩ v):=fun j cur ty h1 _ h3=>by
 refine (Below.heap_setCell _ _ _ _ (fun e=>?_)).trans h3
 subst e
 rw [h3] at h
 simp at h
 exact h1 h.2
/-- a table of one's own whose blocks lie ahead of D -/
def OwnD (w:World) (B D:Nat) (vc vr:Value) (cols:List (Int × Int)) (ur:List (Value × R)):Prop:=OwnCol w B vc cols∧OwnR w B vr ur∧(∀ b,vc.ownBlock=some b→b < D)∧(∀ b,vr.ownBlock=some b→b < D)∧∀ p ∈ ur,∀ b,p.1.ownBlock=some b→b < D
theorem OwnD.of {w:World} {B:Nat} {vc vr:Value} {cols:List (Int × Int)} {ur:List (Value × R)} (h1:OwnCol w B vc cols) (h2:OwnR w B vr ur):OwnD w B w.heap.size vc vr cols ur :=
 ⟨h1,h2,fun _ e=>(row_lt h1 e).2,fun _ e=>(row_lt h2.own e).2,fun p hp _ e=>(row_lt (h2.cells p hp) e).2⟩
theorem OwnD.out {w w':World} {B D B' D':Nat} {vc vr:Value} {cols:List (Int × Int)} {ur:List (Value × R)} (h:OwnD w B D vc vr cols ur) (k:Out B' D' w w') (hd:D≤B'∨D'≤B):OwnD w' B D vc vr cols ur:=by
 obtain ⟨h1,h2,h3,h4,h5⟩:=h
 have key:∀ {e:TypeId} {sz:Nat} {v:Value} {m:Nat} {xs:List Value},w.ownsRow B e sz v m xs→(∀ b,v.ownBlock=some b→b < D)→w'.ownsRow B e sz v m xs:=fun h hv=>by
  refine ⟨h.1,h.2.elim Or.inl (fun ⟨g,cap,cur,e,hg,hc,q⟩=>Or.inr ⟨g,cap,cur,e,hg,?_,q⟩)⟩
  have hgD:g < D:=hv g (by rw [e];rfl)
  refine Eq.trans ?_ hc
  rcases hd with hd | hd
  ·exact k.below.block g (by omega)
  ·exact k.block g (by omega) (Array.getElem?_eq_some_iff.1 hc).1
 exact ⟨key h1 h3,⟨key h2.own h4,fun p hp=>key (h2.cells p hp) (h5 p hp),h2.apart⟩,h3,h4,h5⟩
theorem OwnD.kept {w w':World} {B D:Nat} {vc vr:Value} {cols:List (Int × Int)} {ur:List (Value × R)} (h:OwnD w B D vc vr cols ur) (k:Below w.heap.size w w'):OwnD w' B D vc vr cols ur:=by
 have key:∀ {e:TypeId} {sz:Nat} {v:Value} {m:Nat} {xs:List Value},w.ownsRow B e sz v m xs→w'.ownsRow B e sz v m xs:=fun h =>
  ⟨h.1,h.2.elim Or.inl (fun ⟨g,cap,cur,e,hg,hc,q⟩=>Or.inr ⟨g,cap,cur,e,hg,(k.block g (Array.getElem?_eq_some_iff.1 hc).1).trans hc,q⟩)⟩
 exact ⟨key h.1,⟨key h.2.1.own,fun p hp=>key (h.2.1.cells p hp),h.2.1.apart⟩,h.2.2⟩
/-- the number behind a table's last mark -/
def kEnd (cols:List (Int × Int)) (ur:List (Value × R)):Nat:=kAt (ur.map (·.2)) (1+2 * cols.length) ur.length
theorem mkU_fst (ur:List (Value × R)) (k i:Nat):∀ p ∈ mkU ur k i,∃ q ∈ ur,q.1=p.1:=by
 intro p hp
 obtain ⟨j,hj,rfl⟩:=List.mem_iff_getElem.1 hp
 have hj':j < ur.length:=by rw [mkU_len] at hj;exact hj
 rcases Nat.lt_or_ge j i with hl | hl
 ·have e:=mkU_new ur k i j hl hj'
  rw [List.getElem?_eq_getElem hj] at e
  refine ⟨ur[j],List.getElem_mem hj',?_⟩
  rw [Option.some.inj e,getD_get dU hj']
 ·have e:=mkU_old ur k i j hl
  rw [List.getElem?_eq_getElem hj,List.getElem?_eq_getElem hj'] at e
  exact ⟨ur[j],List.getElem_mem hj',by rw [Option.some.inj e]⟩
end Go.Proofs.Ytggmjiddadjilao
namespace Go.Proofs.Ytggmjiddadjilao
open Go.RowKit

def inB (n lo hi:Int):Bool:=decide (lo≤n∧n≤hi)
theorem retB {a b:Bool} (h:a=b):Ending.returned (.bool a)=.returned (.bool b):=by rw [h]
theorem inB_true {n lo hi:Int} (h1:lo≤n) (h2:n≤hi):inB n lo hi=true:=by simp [inB,h1,h2]
theorem inB_false {n lo hi:Int} (h:¬ (lo≤n∧n≤hi)):inB n lo hi=false:=by simp only [inB,h,decide_false]
end Go.Proofs.Ytggmjiddadjilao
