/-
  PROVED HERE: the drawing of a text (l20Text, l20AnyText) gives some short string, and turns nothing that was in memory but the reader. Also: 1 more texts of the same proof.
-/
import Derived.Test.YtggmjiddadjilaeGreatC12
import Derived.Lib.Strings
import Derived.Deep.RegionWith
namespace Go.Proofs.YtggmjiddadjilaeGreat
open Go.RowKit
theorem lit7 (s0 s1 s2 s3 s4 s5 s6:ByteArray) (n:Nat) (h:s0.size≤n∧s1.size≤n∧s2.size≤n∧s3.size≤n∧s4.size≤n∧s5.size≤n∧s6.size≤n) (k:Int) (h0:0≤k) (h1:k < 7) :
  ∃ v:ByteArray,v.size≤n∧(#[Value.string s0,.string s1,.string s2,.string s3,.string s4,.string s5,.string s6]:Array Value)[k.toNat]?=some (.string v)∧∀ h,([Value.string s0,.string s1,.string s2,.string s3,.string s4,.string s5,.string s6]:List Value)[k.toNat]'h=.string v:=by
 rcases (by omega:k=0∨k=1∨k=2∨k=3∨k=4∨k=5∨k=6) with rfl | rfl | rfl | rfl | rfl | rfl | rfl
 ·exact ⟨s0,h.1,rfl,fun _=>rfl⟩
 ·exact ⟨s1,h.2.1,rfl,fun _=>rfl⟩
 ·exact ⟨s2,h.2.2.1,rfl,fun _=>rfl⟩
 ·exact ⟨s3,h.2.2.2.1,rfl,fun _=>rfl⟩
 ·exact ⟨s4,h.2.2.2.2.1,rfl,fun _=>rfl⟩
 ·exact ⟨s5,h.2.2.2.2.2.1,rfl,fun _=>rfl⟩
 ·exact ⟨s6,h.2.2.2.2.2.2,rfl,fun _=>rfl⟩
theorem toListNil {s:ByteArray} (h:s.size=0):s.toList=[]:=by
 rw [Lib.toList_data];exact List.eq_nil_of_length_eq_zero (by simpa using h)
theorem sizeNil {s:ByteArray} (h:s.toList=[]):s.size=0:=by
 rw [Lib.toList_data] at h;have:=congrArg List.length h;simpa using this
theorem three_size {s v:ByteArray} {q:Nat} (hs:s.size≤30) (hq:q≤s.size) (hv:v.size≤31):(s.extract 0 q ++ v ++ s.extract q s.size).size≤61:=by
 rw [ByteArray.size_append,ByteArray.size_append,ByteArray.size_extract,ByteArray.size_extract];omega
theorem newestT (w:World) (q:Obj):(w.alloc q).heap[w.heap.size]?=some q:=by show (w.heap.push q)[w.heap.size]?=_;simp
def WordsAt (w:World) (g:Nat):Prop:=w.heap[g]?=some (.cells #[.string ⟨#[97]⟩,.string ⟨#[97,110]⟩,.string ⟨#[116,104,101]⟩,.string ⟨#[111,118,101,114]⟩,.string ⟨#[117,110,100,101,114]⟩,.string ⟨#[109,101,97,100,111,119]⟩,.string ⟨#[108,105,103,104,116,104,111,117,115,101]⟩] 9)
set_option maxRecDepth 100000 in
set_option maxHeartbeats 2000000 in
theorem l20Text_any (r B:Nat) (w:World) (h:Rd w r B) (hB:B≤900000) :
  Calls Tryz.prog 98 #[.pointer (some ⟨r,0,none⟩)] w fun e w'=>∃ s:ByteArray,e=.returned (.string s)∧s.size≤30∧Rd w' r (B+6)∧Bk r w w':=by
 have hlt:=h.lt
 have hr0:w.heap.size ≠ r:=by omega
 have HR:Hid (Rd w r B):=h
 clear h
 go_enter Tryz.func98,Tryz.ntmps98
 go_wp2_with fail
 refine (pick_any r B _ _ (Rd.alloc HR.out _) (by omega)).mono ?_
 rintro e w1 ⟨k1,rfl,hk1,hR1,hb1⟩
 obtain ⟨hk1a,hk1b⟩:=hk1 (by omega)
 have hz1:=hb1.size
 simp at hz1
 have W1:=Hd ((hb1.block w.heap.size (by simp) hr0).trans (newestT _ _))
 have HR1:Hid (Rd w1 r (B+1)):=hR1
 have HB1:Hid (Bk r w w1):=Bk.trans (Bk.alloc (Bk.refl r w) _) hb1
 clear hk1 hR1 hb1
 have HW1:Hid (WordsAt w1 w.heap.size):=W1.out
 obtain ⟨q1,rfl⟩:=Int.eq_ofNat_of_zero_le hk1a
 clear W1
 go_wp2_with fail
 go_loopw [4,5,6] (fun s k _ W=>∃ (t:ByteArray) (q:Nat),s=.string t∧k=.int .i64 q∧t.size≤30∧q≤5∧w.heap.size+1≤W.heap.size∧Hid (Rd W r (B+6 - q))∧Hid (Bk r w W)∧Hid (WordsAt W w.heap.size)) (fun _ k _ _=>(intOf k).toNat)
 case atStart=>exact ⟨_,q1,rfl,rfl,by decide,by omega,by omega,Rd.mono HR1.out (by omega),HB1,HW1⟩
 case round =>
  obtain ⟨t,q,rfl,rfl,ht,hq,hsz,HRr,HBr,HWr⟩:=hrel
  by_cases hq0:q=0
  ·subst hq0
   go_wp2
   go_ret
   exact ⟨t,rfl,ht,HRr.out,HBr.out⟩
  ·have hq1:(0:Int) < (q:Int):=by omega
   go_wp2_with fail
   refine (pick_any r (B+6 - q) _ _ HRr.out (by omega)).mono ?_
   rintro e w2 ⟨k2,rfl,hk2,hR2,hb2⟩
   obtain ⟨hk2a,hk2b⟩:=hk2 (by omega)
   have W2:WordsAt w2 w.heap.size:=(hb2.block w.heap.size (by omega) hr0).trans HWr.out
   obtain ⟨v,hv,hl,_⟩:=lit7 ⟨#[97]⟩ ⟨#[97,110]⟩ ⟨#[116,104,101]⟩ ⟨#[111,118,101,114]⟩ ⟨#[117,110,100,101,114]⟩ ⟨#[109,101,97,100,111,119]⟩ ⟨#[108,105,103,104,116,104,111,117,115,101]⟩ 10 (by decide) k2 hk2a hk2b
   have hcv:w2.cell? ⟨w.heap.size,k2.toNat,none⟩=some (.string v):=(Joins.cell_of_block W2 _).trans hl
   have HW2:Hid (WordsAt w2 w.heap.size):=W2
   have HR2:Hid (Rd w2 r (B+6 - (q - 1))):=Rd.mono hR2 (by omega)
   have HB2:Hid (Bk r w w2):=Bk.trans HBr.out hb2
   have hz2:w.heap.size+1≤w2.heap.size:=by have:=hb2.size;omega
   clear hk2 hR2 hb2 W2 hl HRr HBr HWr
   by_cases h0:t.size=0
   ·have he:t.toList=[]:=toListNil h0
    go_wp2
    go_roundw
    case rel=>exact ⟨v,q - 1,rfl,by go_num,by omega,by omega,hz2,HR2,HB2,HW2⟩
    case measure=>simp [intOf];omega
   ·have he:¬ t.toList=[]:=fun h=>h0 (sizeNil h)
    have he2:t.toList.isEmpty=false:=by simpa using he
    by_cases h30:t.size+1+v.size≤30
    ·have h30':(t.size:Int)+1+(v.size:Int)≤30:=by omega
     go_wp2
     go_roundw
     case rel=>exact ⟨_,q - 1,rfl,by go_num,by rw [ByteArray.size_append,ByteArray.size_append];have:(ByteArray.mk #[32]).size=1:=rfl;omega,by omega,hz2,HR2,HB2,HW2⟩
     case measure=>simp [intOf];omega
    ·have h30':¬ (t.size:Int)+1+(v.size:Int)≤30:=by omega
     go_wp2
     go_roundw
     case rel=>exact ⟨t,q - 1,rfl,by go_num,ht,by omega,hz2,HR2,HB2,HW2⟩
     case measure=>simp [intOf];omega
set_option maxRecDepth 100000 in
set_option maxHeartbeats 2000000 in
theorem l20AnyText_any (r B:Nat) (n:Int) (hn:1≤n) (w:World) (h:Rd w r B) (hB:B≤800000) :
  Calls Tryz.prog 100 #[.pointer (some ⟨r,0,none⟩),.int .i64 n] w fun e w'=>∃ s:ByteArray,e=.returned (.string s)∧s.size≤61∧Rd w' r (B+9)∧Bk r w w':=by
 have hlt:=h.lt
 have HR:Hid (Rd w r B):=h
 clear h
 go_enter Tryz.func100,Tryz.ntmps100
 go_wp2_with fail
 refine (l20Text_any r B _ HR.out (by omega)).mono ?_
 rintro e w1 ⟨s,rfl,hs,hR1,hb1⟩
 have HR1:=Hd hR1
 have HB1:=Hd hb1
 have hz1:=hb1.size
 clear hR1 hb1
 go_wp2_with fail
 refine (pick_any r (B+6) _ _ HR1.out (by omega)).mono ?_
 rintro e w2 ⟨k2,rfl,hk2,hR2,hb2⟩
 obtain ⟨hk2a,hk2b⟩:=hk2 (by omega)
 have HR2:=Hd hR2
 have HB2:=Hd (Bk.trans HB1.out hb2)
 have hz2:=hb2.size
 clear hR2 hb2 hk2 HR1 HB1
 by_cases h2:0 < k2
 ·go_wp2
  go_ret
  exact ⟨s,rfl,by omega,Rd.mono HR2.out (by omega),HB2.out⟩
 ·go_wp2_with fail
  refine (pick_any r (B+7) _ _ HR2.out (by omega)).mono ?_
  rintro e w3 ⟨k3,rfl,hk3,hR3,hb3⟩
  obtain ⟨hk3a,hk3b⟩:=hk3 (by omega)
  obtain ⟨q,rfl⟩:=Int.eq_ofNat_of_zero_le hk3a
  have HR3:=Hd hR3
  have HB3:=Hd (Bk.trans HB2.out hb3)
  have hz3:=hb3.size
  clear hR3 hb3 hk3 HR2 HB2
  have hq:(q:Int)≤(s.size:Int):=by omega
  have hq':q≤s.size:=by omega
  go_wp2_with fail
  have hlr:w3.heap.size ≠ r:=by omega
  go_region_with (first
   | (go_at_call 61;refine (pick_any r (B+8) _ _ (Rd.drew (Rd.alloc HR3.out _)) (by omega)).mono ?_;rintro e w4 ⟨k4,rfl,hk4,hR4,hb4⟩;obtain ⟨hk4a,hk4b⟩:=hk4 (by omega);obtain ⟨v,hv,hl,_⟩:=lit7 ⟨#[32]⟩ ⟨#[32,32]⟩ ⟨#[65]⟩ ⟨#[49]⟩ ⟨#[45]⟩ ⟨#[0]⟩ ⟨#[97,98,99,100,101,102,103,104,105,106,97,98,99,100,101,102,103,104,105,106,97,98,99,100,101,102,103,104,105,106,120]⟩ 31 (by decide) k4 hk4a hk4b;have hcv:w4.cell? ⟨w3.heap.size,k4.toNat,none⟩=some (.string v):=(Joins.cell_of_block ((hb4.block w3.heap.size (by simp) hlr).trans (newestT _ _)) _).trans hl;have HR4:=Hd hR4;have HB4:=Hd (Bk.trans (Bk.drew (Bk.alloc HB3.out _)) hb4);clear hk4 hR4 hb4 hl)
   | (go_at_call 61;refine (pick_any r (B+8) _ _ (Rd.drew HR3.out) (by omega)).mono ?_;rintro e w4 ⟨k4,rfl,hk4,hR4,hb4⟩;obtain ⟨hk4a,hk4b⟩:=hk4 (by omega);obtain ⟨v,hv,hl,hge⟩:=lit7 ⟨#[32]⟩ ⟨#[32,32]⟩ ⟨#[65]⟩ ⟨#[49]⟩ ⟨#[45]⟩ ⟨#[0]⟩ ⟨#[97,98,99,100,101,102,103,104,105,106,97,98,99,100,101,102,103,104,105,106,97,98,99,100,101,102,103,104,105,106,120]⟩ 31 (by decide) k4 hk4a hk4b;have HR4:=Hd hR4;have HB4:=Hd (Bk.trans (Bk.drew HB3.out) hb4);clear hk4 hR4 hb4 hl))
  all_goals
   go_wp2
   go_ret
   exact ⟨_,rfl,three_size hs hq' hv,by first | exact HR4.out | exact Rd.alloc HR4.out _,by first | exact HB4.out | exact Bk.alloc HB4.out _⟩
theorem lit3 (a b c:Int) (k:Int) (h0:0≤k) (h1:k < 3):∃ v:Int,(#[Value.int .i64 a,.int .i64 b,.int .i64 c]:Array Value)[k.toNat]?=some (.int .i64 v):=by
 rcases (by omega:k=0∨k=1∨k=2) with rfl | rfl | rfl <;> exact ⟨_,rfl⟩
theorem lit4 (a b c d:Int) (k:Int) (h0:0≤k) (h1:k < 4):∃ v:Int,(#[Value.int .i64 a,.int .i64 b,.int .i64 c,.int .i64 d]:Array Value)[k.toNat]?=some (.int .i64 v):=by
 rcases (by omega:k=0∨k=1∨k=2∨k=3) with rfl | rfl | rfl | rfl <;> exact ⟨_,rfl⟩
theorem two_cells {w:World} {g:Nat} {x y:Value} {t:TypeId} (h:w.heap[g]?=some (.cells #[x,y] t)) :
  (w.cell? ⟨g,0,none⟩=some x∧w.cell? ⟨g,1,none⟩=some y)∧w.frozen? ⟨g,0,none⟩=false∧w.frozen? ⟨g,1,none⟩=false :=
 ⟨⟨Joins.cell_of_block h 0,Joins.cell_of_block h 1⟩,Joins.unfrozen_of_block h 0,Joins.unfrozen_of_block h 1⟩
theorem set0 {w:World} {g:Nat} {x y:Value} {t:TypeId} (h:w.heap[g]?=some (.cells #[x,y] t)) (v:Value):(w.setCell ⟨g,0,none⟩ v).heap[g]?=some (.cells #[v,y] t):=by rw [Joins.block_setCell h];simp
theorem set1 {w:World} {g:Nat} {x y:Value} {t:TypeId} (h:w.heap[g]?=some (.cells #[x,y] t)) (v:Value):(w.setCell ⟨g,1,none⟩ v).heap[g]?=some (.cells #[x,v] t):=by rw [Joins.block_setCell h];simp
theorem other {w:World} {g:Nat} {o:Option Obj} (h:w.heap[g]?=o) {p:Addr} (hp:g ≠ p.block) (v:Value):(w.setCell p v).heap[g]?=o:=(Below.heap_setCell _ _ _ _ hp).trans h
theorem more {w:World} {g:Nat} {o:Obj} (h:w.heap[g]?=some o) (q:Obj):(w.alloc q).heap[g]?=some o:=(Below.heap_alloc _ _ _ (bL h)).trans h
theorem newest (w:World) (q:Obj):(w.alloc q).heap[w.heap.size]?=some q:=by show (w.heap.push q)[w.heap.size]?=_;simp
theorem newest1 (w:World) (p q:Obj):((w.alloc p).alloc q).heap[w.heap.size+1]?=some q:=by
 have h:=newest (w.alloc p) q
 rw [show (w.alloc p).heap.size=w.heap.size+1 by simp] at h
 exact h
set_option maxRecDepth 100000 in
set_option maxHeartbeats 4000000 in
theorem l20Brd_any (r B:Nat) (n:Int) (hn:1≤n) (w:World) (h:Rd w r B) (hB:B≤900000) :
  Calls Tryz.prog 99 #[.pointer (some ⟨r,0,none⟩),.int .i64 n] w fun e w'=>∃ x y:Int,e=.returned (.agg #[.int .i64 x,.int .i64 y])∧Rd w' r (B+6)∧Bk r w w':=by
 have hlt:=h.lt
 have hr0:w.heap.size ≠ r:=by omega
 have hr1:w.heap.size+1 ≠ r:=by omega
 have HR:Hid (Rd w r B):=h
 clear h
 go_enter Tryz.func99,Tryz.ntmps99
 go_wp2_with fail
 refine (pick_any r (B+0) _ _ (Rd.alloc (Rd.alloc HR.out _) _) (by omega)).mono ?_
 rintro e w1 ⟨k1,rfl,hk1,hR1,hb1⟩
 obtain ⟨hk1a,hk1b⟩:=hk1 (by omega)
 have hz1:=hb1.size
 try simp at hz1
 have hx1:w.heap.size+1 < w1.heap.size:=by omega
 have hw1:w1.heap.size ≠ r:=by omega
 have A1:=Hd ((hb1.block w.heap.size (by first | omega | (simp;omega) | simp) hr0).trans (more (newest _ _) _))
 have B1:=Hd ((hb1.block (w.heap.size+1) (by first | omega | (simp;omega) | simp) hr1).trans (newest1 _ _ _))
 obtain ⟨⟨a10,a11⟩,af10,af11⟩:=two_cells A1.out
 obtain ⟨⟨b10,b11⟩,bf10,bf11⟩:=two_cells B1.out
 have HR1:Hid (Rd w1 r (B+1)):=hR1
 have HB1:Hid (Bk r _ w1):=hb1
 clear hR1 hb1 hk1 hz1
 rcases (by omega:k1=0∨k1=1∨k1=2∨k1=3) with rfl | rfl | rfl | rfl
 ·skip
  go_wp2_with fail
  refine (pick_any r (B+1) _ _ HR1.out (by omega)).mono ?_
  rintro e w2 ⟨k2,rfl,hk2,hR2,hb2⟩
  obtain ⟨hk2a,hk2b⟩:=hk2 (by omega)
  have hz2:=hb2.size
  try simp at hz2
  have hx2:w.heap.size+1 < w2.heap.size:=by omega
  have hw2:w2.heap.size ≠ r:=by omega
  have A2:=Hd ((hb2.block w.heap.size (by first | omega | (simp;omega) | simp) hr0).trans (A1.out))
  have B2:=Hd ((hb2.block (w.heap.size+1) (by first | omega | (simp;omega) | simp) hr1).trans (B1.out))
  obtain ⟨⟨a20,a21⟩,af20,af21⟩:=two_cells A2.out
  obtain ⟨⟨b20,b21⟩,bf20,bf21⟩:=two_cells B2.out
  have HR2:Hid (Rd w2 r (B+2)):=hR2
  have HB2:Hid (Bk r _ w2):=hb2
  clear hR2 hb2 hk2 hz2
  clear a10 a11 af10 af11 b10 b11 bf10 bf11 A1 B1 hw1
  go_wp2_with fail
  refine (pick_any r (B+2) _ _ HR2.out (by omega)).mono ?_
  rintro e w3 ⟨k3,rfl,hk3,hR3,hb3⟩
  obtain ⟨hk3a,hk3b⟩:=hk3 (by omega)
  have hz3:=hb3.size
  try simp at hz3
  have hx3:w.heap.size+1 < w3.heap.size:=by omega
  have hw3:w3.heap.size ≠ r:=by omega
  have A3:=Hd ((hb3.block w.heap.size (by first | omega | (simp;omega) | simp) hr0).trans (A2.out))
  have B3:=Hd ((hb3.block (w.heap.size+1) (by first | omega | (simp;omega) | simp) hr1).trans (B2.out))
  obtain ⟨⟨a30,a31⟩,af30,af31⟩:=two_cells A3.out
  obtain ⟨⟨b30,b31⟩,bf30,bf31⟩:=two_cells B3.out
  have HR3:Hid (Rd w3 r (B+3)):=hR3
  have HB3:Hid (Bk r _ w3):=hb3
  clear hR3 hb3 hk3 hz3
  clear a20 a21 af20 af21 b20 b21 bf20 bf21 A2 B2 hw2
  go_wp2_with fail
  refine (pick_any r (B+3) _ _ (Rd.set (Rd.set HR3.out (by dsimp only;omega) _) (by dsimp only;omega) _) (by omega)).mono ?_
  rintro e w4 ⟨k4,rfl,hk4,hR4,hb4⟩
  obtain ⟨hk4a,hk4b⟩:=hk4 (by omega)
  have hz4:=hb4.size
  try simp at hz4
  have hx4:w.heap.size+1 < w4.heap.size:=by omega
  have hw4:w4.heap.size ≠ r:=by omega
  have A4:=Hd ((hb4.block w.heap.size (by first | omega | (simp;omega) | simp) hr0).trans (other (other A3.out (by dsimp only;omega) _) (by dsimp only;omega) _))
  have B4:=Hd ((hb4.block (w.heap.size+1) (by first | omega | (simp;omega) | simp) hr1).trans (set1 (set0 B3.out _) _))
  obtain ⟨⟨a40,a41⟩,af40,af41⟩:=two_cells A4.out
  obtain ⟨⟨b40,b41⟩,bf40,bf41⟩:=two_cells B4.out
  have HR4:Hid (Rd w4 r (B+4)):=hR4
  have HB4:Hid (Bk r _ w4):=hb4
  clear hR4 hb4 hk4 hz4
  clear a30 a31 af30 af31 b30 b31 bf30 bf31 A3 B3 hw3
  by_cases e4:k4=0
  ·skip
   subst e4
   go_wp2_with fail
   refine (pick_any r (B+4) _ _ HR4.out (by omega)).mono ?_
   rintro e w5 ⟨k5,rfl,hk5,hR5,hb5⟩
   obtain ⟨hk5a,hk5b⟩:=hk5 (by omega)
   have hz5:=hb5.size
   try simp at hz5
   have hx5:w.heap.size+1 < w5.heap.size:=by omega
   have hw5:w5.heap.size ≠ r:=by omega
   have A5:=Hd ((hb5.block w.heap.size (by first | omega | (simp;omega) | simp) hr0).trans (A4.out))
   have B5:=Hd ((hb5.block (w.heap.size+1) (by first | omega | (simp;omega) | simp) hr1).trans (B4.out))
   obtain ⟨⟨a50,a51⟩,af50,af51⟩:=two_cells A5.out
   obtain ⟨⟨b50,b51⟩,bf50,bf51⟩:=two_cells B5.out
   have HR5:Hid (Rd w5 r (B+5)):=hR5
   have HB5:Hid (Bk r _ w5):=hb5
   clear hR5 hb5 hk5 hz5
   clear a40 a41 af40 af41 b40 b41 bf40 bf41 A4 B4 hw4
   by_cases e5:k5=0
   ·subst e5
    go_wp2_with fail
    refine (pick_any r (B+5) _ _ (Rd.alloc HR5.out _) (by omega)).mono ?_
    rintro e w6 ⟨k6,rfl,hk6,hR6,hb6⟩
    obtain ⟨hk6a,hk6b⟩:=hk6 (by omega)
    have hz6:=hb6.size
    try simp at hz6
    have hx6:w.heap.size+1 < w6.heap.size:=by omega
    have hw6:w6.heap.size ≠ r:=by omega
    have A6:=Hd ((hb6.block w.heap.size (by first | omega | (simp;omega) | simp) hr0).trans (more A5.out _))
    have B6:=Hd ((hb6.block (w.heap.size+1) (by first | omega | (simp;omega) | simp) hr1).trans (more B5.out _))
    obtain ⟨⟨a60,a61⟩,af60,af61⟩:=two_cells A6.out
    obtain ⟨⟨b60,b61⟩,bf60,bf61⟩:=two_cells B6.out
    obtain ⟨v,hv⟩:=lit3 (-1) 5 1 k6 hk6a hk6b
    have hcv:w6.cell? ⟨w5.heap.size,k6.toNat,none⟩=some (.int .i64 v):=(Joins.cell_of_block ((hb6.block w5.heap.size (by simp) hw5).trans (newest _ _)) _).trans hv
    clear hv
    have HR6:Hid (Rd w6 r (B+6)):=hR6
    have HB6:Hid (Bk r _ w6):=hb6
    clear hR6 hb6 hk6 hz6
    clear a50 a51 af50 af51 b50 b51 bf50 bf51 A5 B5 hw5
    go_wp2
    exact bodyPost_ret (v:=.agg #[.int .i64 (v),.int .i64 (1+k3)]) (by simp [results,Tryz.results99,go_sem,a60,a61]) rfl ⟨v,1+k3,rfl,Rd.mono (B:=B+6) (Rd.set (Rd.set (Rd.set HR6.out (by dsimp only;omega) _) (by dsimp only;omega) _) (by dsimp only;omega) _) (by omega),(Bk.set (Bk.set (Bk.set (Bk.trans (Bk.alloc (Bk.trans (Bk.trans (Bk.set (Bk.set (Bk.trans (Bk.trans (Bk.trans (Bk.alloc (Bk.alloc (Bk.refl r w) _) _) HB1.out) HB2.out) HB3.out) (Or.inr (by dsimp only;omega)) _) (Or.inr (by dsimp only;omega)) _) HB4.out) HB5.out) _) HB6.out) (Or.inr (by dsimp only;omega)) _) (Or.inr (by dsimp only;omega)) _) (Or.inr (by dsimp only;omega)) _)⟩
   ·have e5':(k5 == 0)=false:=beq_eq_false_iff_ne.2 e5
    go_wp2_with fail
    refine (pick_any r (B+5) _ _ (Rd.alloc HR5.out _) (by omega)).mono ?_
    rintro e w6 ⟨k6,rfl,hk6,hR6,hb6⟩
    obtain ⟨hk6a,hk6b⟩:=hk6 (by omega)
    have hz6:=hb6.size
    try simp at hz6
    have hx6:w.heap.size+1 < w6.heap.size:=by omega
    have hw6:w6.heap.size ≠ r:=by omega
    have A6:=Hd ((hb6.block w.heap.size (by first | omega | (simp;omega) | simp) hr0).trans (more A5.out _))
    have B6:=Hd ((hb6.block (w.heap.size+1) (by first | omega | (simp;omega) | simp) hr1).trans (more B5.out _))
    obtain ⟨⟨a60,a61⟩,af60,af61⟩:=two_cells A6.out
    obtain ⟨⟨b60,b61⟩,bf60,bf61⟩:=two_cells B6.out
    obtain ⟨v,hv⟩:=lit4 (-1) 4 0 1 k6 hk6a hk6b
    have hcv:w6.cell? ⟨w5.heap.size,k6.toNat,none⟩=some (.int .i64 v):=(Joins.cell_of_block ((hb6.block w5.heap.size (by simp) hw5).trans (newest _ _)) _).trans hv
    clear hv
    have HR6:Hid (Rd w6 r (B+6)):=hR6
    have HB6:Hid (Bk r _ w6):=hb6
    clear hR6 hb6 hk6 hz6
    clear a50 a51 af50 af51 b50 b51 bf50 bf51 A5 B5 hw5
    go_wp2
    exact bodyPost_ret (v:=.agg #[.int .i64 (1+k2),.int .i64 (v)]) (by simp [results,Tryz.results99,go_sem,a60,a61]) rfl ⟨1+k2,v,rfl,Rd.mono (B:=B+6) (Rd.set (Rd.set (Rd.set HR6.out (by dsimp only;omega) _) (by dsimp only;omega) _) (by dsimp only;omega) _) (by omega),(Bk.set (Bk.set (Bk.set (Bk.trans (Bk.alloc (Bk.trans (Bk.trans (Bk.set (Bk.set (Bk.trans (Bk.trans (Bk.trans (Bk.alloc (Bk.alloc (Bk.refl r w) _) _) HB1.out) HB2.out) HB3.out) (Or.inr (by dsimp only;omega)) _) (Or.inr (by dsimp only;omega)) _) HB4.out) HB5.out) _) HB6.out) (Or.inr (by dsimp only;omega)) _) (Or.inr (by dsimp only;omega)) _) (Or.inr (by dsimp only;omega)) _)⟩
  ·skip
   have e4':(k4 == 0)=false:=beq_eq_false_iff_ne.2 e4
   go_wp2
   exact bodyPost_ret (v:=.agg #[.int .i64 (1+k2),.int .i64 (1+k3)]) (by simp [results,Tryz.results99,go_sem,a40,a41]) rfl ⟨1+k2,1+k3,rfl,Rd.mono (B:=B+4) (Rd.set (Rd.set HR4.out (by dsimp only;omega) _) (by dsimp only;omega) _) (by omega),(Bk.set (Bk.set (Bk.trans (Bk.set (Bk.set (Bk.trans (Bk.trans (Bk.trans (Bk.alloc (Bk.alloc (Bk.refl r w) _) _) HB1.out) HB2.out) HB3.out) (Or.inr (by dsimp only;omega)) _) (Or.inr (by dsimp only;omega)) _) HB4.out) (Or.inr (by dsimp only;omega)) _) (Or.inr (by dsimp only;omega)) _)⟩
 ·skip
  go_wp2_with fail
  refine (pick_any r (B+1) _ _ HR1.out (by omega)).mono ?_
  rintro e w2 ⟨k2,rfl,hk2,hR2,hb2⟩
  obtain ⟨hk2a,hk2b⟩:=hk2 (by omega)
  have hz2:=hb2.size
  try simp at hz2
  have hx2:w.heap.size+1 < w2.heap.size:=by omega
  have hw2:w2.heap.size ≠ r:=by omega
  have A2:=Hd ((hb2.block w.heap.size (by first | omega | (simp;omega) | simp) hr0).trans (A1.out))
  have B2:=Hd ((hb2.block (w.heap.size+1) (by first | omega | (simp;omega) | simp) hr1).trans (B1.out))
  obtain ⟨⟨a20,a21⟩,af20,af21⟩:=two_cells A2.out
  obtain ⟨⟨b20,b21⟩,bf20,bf21⟩:=two_cells B2.out
  have HR2:Hid (Rd w2 r (B+2)):=hR2
  have HB2:Hid (Bk r _ w2):=hb2
  clear hR2 hb2 hk2 hz2
  clear a10 a11 af10 af11 b10 b11 bf10 bf11 A1 B1 hw1
  go_wp2_with fail
  refine (pick_any r (B+2) _ _ HR2.out (by omega)).mono ?_
  rintro e w3 ⟨k3,rfl,hk3,hR3,hb3⟩
  obtain ⟨hk3a,hk3b⟩:=hk3 (by omega)
  have hz3:=hb3.size
  try simp at hz3
  have hx3:w.heap.size+1 < w3.heap.size:=by omega
  have hw3:w3.heap.size ≠ r:=by omega
  have A3:=Hd ((hb3.block w.heap.size (by first | omega | (simp;omega) | simp) hr0).trans (A2.out))
  have B3:=Hd ((hb3.block (w.heap.size+1) (by first | omega | (simp;omega) | simp) hr1).trans (B2.out))
  obtain ⟨⟨a30,a31⟩,af30,af31⟩:=two_cells A3.out
  obtain ⟨⟨b30,b31⟩,bf30,bf31⟩:=two_cells B3.out
  have HR3:Hid (Rd w3 r (B+3)):=hR3
  have HB3:Hid (Bk r _ w3):=hb3
  clear hR3 hb3 hk3 hz3
  clear a20 a21 af20 af21 b20 b21 bf20 bf21 A2 B2 hw2
  go_wp2_with fail
  refine (pick_any r (B+3) _ _ (Rd.set (Rd.set HR3.out (by dsimp only;omega) _) (by dsimp only;omega) _) (by omega)).mono ?_
  rintro e w4 ⟨k4,rfl,hk4,hR4,hb4⟩
  obtain ⟨hk4a,hk4b⟩:=hk4 (by omega)
  have hz4:=hb4.size
  try simp at hz4
  have hx4:w.heap.size+1 < w4.heap.size:=by omega
  have hw4:w4.heap.size ≠ r:=by omega
  have A4:=Hd ((hb4.block w.heap.size (by first | omega | (simp;omega) | simp) hr0).trans (other (other A3.out (by dsimp only;omega) _) (by dsimp only;omega) _))
  have B4:=Hd ((hb4.block (w.heap.size+1) (by first | omega | (simp;omega) | simp) hr1).trans (set1 (set0 B3.out _) _))
  obtain ⟨⟨a40,a41⟩,af40,af41⟩:=two_cells A4.out
  obtain ⟨⟨b40,b41⟩,bf40,bf41⟩:=two_cells B4.out
  have HR4:Hid (Rd w4 r (B+4)):=hR4
  have HB4:Hid (Bk r _ w4):=hb4
  clear hR4 hb4 hk4 hz4
  clear a30 a31 af30 af31 b30 b31 bf30 bf31 A3 B3 hw3
  by_cases e4:k4=0
  ·skip
   subst e4
   go_wp2_with fail
   refine (pick_any r (B+4) _ _ HR4.out (by omega)).mono ?_
   rintro e w5 ⟨k5,rfl,hk5,hR5,hb5⟩
   obtain ⟨hk5a,hk5b⟩:=hk5 (by omega)
   have hz5:=hb5.size
   try simp at hz5
   have hx5:w.heap.size+1 < w5.heap.size:=by omega
   have hw5:w5.heap.size ≠ r:=by omega
   have A5:=Hd ((hb5.block w.heap.size (by first | omega | (simp;omega) | simp) hr0).trans (A4.out))
   have B5:=Hd ((hb5.block (w.heap.size+1) (by first | omega | (simp;omega) | simp) hr1).trans (B4.out))
   obtain ⟨⟨a50,a51⟩,af50,af51⟩:=two_cells A5.out
   obtain ⟨⟨b50,b51⟩,bf50,bf51⟩:=two_cells B5.out
   have HR5:Hid (Rd w5 r (B+5)):=hR5
   have HB5:Hid (Bk r _ w5):=hb5
   clear hR5 hb5 hk5 hz5
   clear a40 a41 af40 af41 b40 b41 bf40 bf41 A4 B4 hw4
   by_cases e5:k5=0
   ·subst e5
    go_wp2_with fail
    refine (pick_any r (B+5) _ _ (Rd.alloc HR5.out _) (by omega)).mono ?_
    rintro e w6 ⟨k6,rfl,hk6,hR6,hb6⟩
    obtain ⟨hk6a,hk6b⟩:=hk6 (by omega)
    have hz6:=hb6.size
    try simp at hz6
    have hx6:w.heap.size+1 < w6.heap.size:=by omega
    have hw6:w6.heap.size ≠ r:=by omega
    have A6:=Hd ((hb6.block w.heap.size (by first | omega | (simp;omega) | simp) hr0).trans (more A5.out _))
    have B6:=Hd ((hb6.block (w.heap.size+1) (by first | omega | (simp;omega) | simp) hr1).trans (more B5.out _))
    obtain ⟨⟨a60,a61⟩,af60,af61⟩:=two_cells A6.out
    obtain ⟨⟨b60,b61⟩,bf60,bf61⟩:=two_cells B6.out
    obtain ⟨v,hv⟩:=lit3 (-1) 5 1 k6 hk6a hk6b
    have hcv:w6.cell? ⟨w5.heap.size,k6.toNat,none⟩=some (.int .i64 v):=(Joins.cell_of_block ((hb6.block w5.heap.size (by simp) hw5).trans (newest _ _)) _).trans hv
    clear hv
    have HR6:Hid (Rd w6 r (B+6)):=hR6
    have HB6:Hid (Bk r _ w6):=hb6
    clear hR6 hb6 hk6 hz6
    clear a50 a51 af50 af51 b50 b51 bf50 bf51 A5 B5 hw5
    go_wp2
    exact bodyPost_ret (v:=.agg #[.int .i64 (v),.int .i64 (1+k3)]) (by simp [results,Tryz.results99,go_sem,a60,a61]) rfl ⟨v,1+k3,rfl,Rd.mono (B:=B+6) (Rd.set (Rd.set (Rd.set HR6.out (by dsimp only;omega) _) (by dsimp only;omega) _) (by dsimp only;omega) _) (by omega),(Bk.set (Bk.set (Bk.set (Bk.trans (Bk.alloc (Bk.trans (Bk.trans (Bk.set (Bk.set (Bk.trans (Bk.trans (Bk.trans (Bk.alloc (Bk.alloc (Bk.refl r w) _) _) HB1.out) HB2.out) HB3.out) (Or.inr (by dsimp only;omega)) _) (Or.inr (by dsimp only;omega)) _) HB4.out) HB5.out) _) HB6.out) (Or.inr (by dsimp only;omega)) _) (Or.inr (by dsimp only;omega)) _) (Or.inr (by dsimp only;omega)) _)⟩
   ·have e5':(k5 == 0)=false:=beq_eq_false_iff_ne.2 e5
    go_wp2_with fail
    refine (pick_any r (B+5) _ _ (Rd.alloc HR5.out _) (by omega)).mono ?_
    rintro e w6 ⟨k6,rfl,hk6,hR6,hb6⟩
    obtain ⟨hk6a,hk6b⟩:=hk6 (by omega)
    have hz6:=hb6.size
    try simp at hz6
    have hx6:w.heap.size+1 < w6.heap.size:=by omega
    have hw6:w6.heap.size ≠ r:=by omega
    have A6:=Hd ((hb6.block w.heap.size (by first | omega | (simp;omega) | simp) hr0).trans (more A5.out _))
    have B6:=Hd ((hb6.block (w.heap.size+1) (by first | omega | (simp;omega) | simp) hr1).trans (more B5.out _))
    obtain ⟨⟨a60,a61⟩,af60,af61⟩:=two_cells A6.out
    obtain ⟨⟨b60,b61⟩,bf60,bf61⟩:=two_cells B6.out
    obtain ⟨v,hv⟩:=lit4 (-1) 4 0 1 k6 hk6a hk6b
    have hcv:w6.cell? ⟨w5.heap.size,k6.toNat,none⟩=some (.int .i64 v):=(Joins.cell_of_block ((hb6.block w5.heap.size (by simp) hw5).trans (newest _ _)) _).trans hv
    clear hv
    have HR6:Hid (Rd w6 r (B+6)):=hR6
    have HB6:Hid (Bk r _ w6):=hb6
    clear hR6 hb6 hk6 hz6
    clear a50 a51 af50 af51 b50 b51 bf50 bf51 A5 B5 hw5
    go_wp2
    exact bodyPost_ret (v:=.agg #[.int .i64 (1+k2),.int .i64 (v)]) (by simp [results,Tryz.results99,go_sem,a60,a61]) rfl ⟨1+k2,v,rfl,Rd.mono (B:=B+6) (Rd.set (Rd.set (Rd.set HR6.out (by dsimp only;omega) _) (by dsimp only;omega) _) (by dsimp only;omega) _) (by omega),(Bk.set (Bk.set (Bk.set (Bk.trans (Bk.alloc (Bk.trans (Bk.trans (Bk.set (Bk.set (Bk.trans (Bk.trans (Bk.trans (Bk.alloc (Bk.alloc (Bk.refl r w) _) _) HB1.out) HB2.out) HB3.out) (Or.inr (by dsimp only;omega)) _) (Or.inr (by dsimp only;omega)) _) HB4.out) HB5.out) _) HB6.out) (Or.inr (by dsimp only;omega)) _) (Or.inr (by dsimp only;omega)) _) (Or.inr (by dsimp only;omega)) _)⟩
  ·skip
   have e4':(k4 == 0)=false:=beq_eq_false_iff_ne.2 e4
   go_wp2
   exact bodyPost_ret (v:=.agg #[.int .i64 (1+k2),.int .i64 (1+k3)]) (by simp [results,Tryz.results99,go_sem,a40,a41]) rfl ⟨1+k2,1+k3,rfl,Rd.mono (B:=B+4) (Rd.set (Rd.set HR4.out (by dsimp only;omega) _) (by dsimp only;omega) _) (by omega),(Bk.set (Bk.set (Bk.trans (Bk.set (Bk.set (Bk.trans (Bk.trans (Bk.trans (Bk.alloc (Bk.alloc (Bk.refl r w) _) _) HB1.out) HB2.out) HB3.out) (Or.inr (by dsimp only;omega)) _) (Or.inr (by dsimp only;omega)) _) HB4.out) (Or.inr (by dsimp only;omega)) _) (Or.inr (by dsimp only;omega)) _)⟩
 ·skip
  go_wp2_with fail
  refine (pick_any r (B+1) _ _ HR1.out (by omega)).mono ?_
  rintro e w2 ⟨k2,rfl,hk2,hR2,hb2⟩
  obtain ⟨hk2a,hk2b⟩:=hk2 (by omega)
  have hz2:=hb2.size
  try simp at hz2
  have hx2:w.heap.size+1 < w2.heap.size:=by omega
  have hw2:w2.heap.size ≠ r:=by omega
  have A2:=Hd ((hb2.block w.heap.size (by first | omega | (simp;omega) | simp) hr0).trans (A1.out))
  have B2:=Hd ((hb2.block (w.heap.size+1) (by first | omega | (simp;omega) | simp) hr1).trans (B1.out))
  obtain ⟨⟨a20,a21⟩,af20,af21⟩:=two_cells A2.out
  obtain ⟨⟨b20,b21⟩,bf20,bf21⟩:=two_cells B2.out
  have HR2:Hid (Rd w2 r (B+2)):=hR2
  have HB2:Hid (Bk r _ w2):=hb2
  clear hR2 hb2 hk2 hz2
  clear a10 a11 af10 af11 b10 b11 bf10 bf11 A1 B1 hw1
  by_cases e2:k2=0
  ·subst e2
   go_wp2_with fail
   refine (pick_any r (B+2) _ _ (Rd.set HR2.out (by dsimp only;omega) _) (by omega)).mono ?_
   rintro e w3 ⟨k3,rfl,hk3,hR3,hb3⟩
   obtain ⟨hk3a,hk3b⟩:=hk3 (by omega)
   have hz3:=hb3.size
   try simp at hz3
   have hx3:w.heap.size+1 < w3.heap.size:=by omega
   have hw3:w3.heap.size ≠ r:=by omega
   have A3:=Hd ((hb3.block w.heap.size (by first | omega | (simp;omega) | simp) hr0).trans (other A2.out (by dsimp only;omega) _))
   have B3:=Hd ((hb3.block (w.heap.size+1) (by first | omega | (simp;omega) | simp) hr1).trans (set0 B2.out _))
   obtain ⟨⟨a30,a31⟩,af30,af31⟩:=two_cells A3.out
   obtain ⟨⟨b30,b31⟩,bf30,bf31⟩:=two_cells B3.out
   have HR3:Hid (Rd w3 r (B+3)):=hR3
   have HB3:Hid (Bk r _ w3):=hb3
   clear hR3 hb3 hk3 hz3
   clear a20 a21 af20 af21 b20 b21 bf20 bf21 A2 B2 hw2
   by_cases e3:k3=0
   ·skip
    subst e3
    go_wp2_with fail
    refine (pick_any r (B+3) _ _ HR3.out (by omega)).mono ?_
    rintro e w4 ⟨k4,rfl,hk4,hR4,hb4⟩
    obtain ⟨hk4a,hk4b⟩:=hk4 (by omega)
    have hz4:=hb4.size
    try simp at hz4
    have hx4:w.heap.size+1 < w4.heap.size:=by omega
    have hw4:w4.heap.size ≠ r:=by omega
    have A4:=Hd ((hb4.block w.heap.size (by first | omega | (simp;omega) | simp) hr0).trans (A3.out))
    have B4:=Hd ((hb4.block (w.heap.size+1) (by first | omega | (simp;omega) | simp) hr1).trans (B3.out))
    obtain ⟨⟨a40,a41⟩,af40,af41⟩:=two_cells A4.out
    obtain ⟨⟨b40,b41⟩,bf40,bf41⟩:=two_cells B4.out
    have HR4:Hid (Rd w4 r (B+4)):=hR4
    have HB4:Hid (Bk r _ w4):=hb4
    clear hR4 hb4 hk4 hz4
    clear a30 a31 af30 af31 b30 b31 bf30 bf31 A3 B3 hw3
    by_cases e4:k4=0
    ·subst e4
     go_wp2_with fail
     refine (pick_any r (B+4) _ _ (Rd.alloc HR4.out _) (by omega)).mono ?_
     rintro e w5 ⟨k5,rfl,hk5,hR5,hb5⟩
     obtain ⟨hk5a,hk5b⟩:=hk5 (by omega)
     have hz5:=hb5.size
     try simp at hz5
     have hx5:w.heap.size+1 < w5.heap.size:=by omega
     have hw5:w5.heap.size ≠ r:=by omega
     have A5:=Hd ((hb5.block w.heap.size (by first | omega | (simp;omega) | simp) hr0).trans (more A4.out _))
     have B5:=Hd ((hb5.block (w.heap.size+1) (by first | omega | (simp;omega) | simp) hr1).trans (more B4.out _))
     obtain ⟨⟨a50,a51⟩,af50,af51⟩:=two_cells A5.out
     obtain ⟨⟨b50,b51⟩,bf50,bf51⟩:=two_cells B5.out
     obtain ⟨v,hv⟩:=lit3 (-1) 5 1 k5 hk5a hk5b
     have hcv:w5.cell? ⟨w4.heap.size,k5.toNat,none⟩=some (.int .i64 v):=(Joins.cell_of_block ((hb5.block w4.heap.size (by simp) hw4).trans (newest _ _)) _).trans hv
     clear hv
     have HR5:Hid (Rd w5 r (B+5)):=hR5
     have HB5:Hid (Bk r _ w5):=hb5
     clear hR5 hb5 hk5 hz5
     clear a40 a41 af40 af41 b40 b41 bf40 bf41 A4 B4 hw4
     go_wp2
     exact bodyPost_ret (v:=.agg #[.int .i64 (v),.int .i64 (0)]) (by simp [results,Tryz.results99,go_sem,a50,a51]) rfl ⟨v,0,rfl,Rd.mono (B:=B+5) (Rd.set (Rd.set (Rd.set HR5.out (by dsimp only;omega) _) (by dsimp only;omega) _) (by dsimp only;omega) _) (by omega),(Bk.set (Bk.set (Bk.set (Bk.trans (Bk.alloc (Bk.trans (Bk.trans (Bk.set (Bk.trans (Bk.trans (Bk.alloc (Bk.alloc (Bk.refl r w) _) _) HB1.out) HB2.out) (Or.inr (by dsimp only;omega)) _) HB3.out) HB4.out) _) HB5.out) (Or.inr (by dsimp only;omega)) _) (Or.inr (by dsimp only;omega)) _) (Or.inr (by dsimp only;omega)) _)⟩
    ·have e4':(k4 == 0)=false:=beq_eq_false_iff_ne.2 e4
     go_wp2_with fail
     refine (pick_any r (B+4) _ _ (Rd.alloc HR4.out _) (by omega)).mono ?_
     rintro e w5 ⟨k5,rfl,hk5,hR5,hb5⟩
     obtain ⟨hk5a,hk5b⟩:=hk5 (by omega)
     have hz5:=hb5.size
     try simp at hz5
     have hx5:w.heap.size+1 < w5.heap.size:=by omega
     have hw5:w5.heap.size ≠ r:=by omega
     have A5:=Hd ((hb5.block w.heap.size (by first | omega | (simp;omega) | simp) hr0).trans (more A4.out _))
     have B5:=Hd ((hb5.block (w.heap.size+1) (by first | omega | (simp;omega) | simp) hr1).trans (more B4.out _))
     obtain ⟨⟨a50,a51⟩,af50,af51⟩:=two_cells A5.out
     obtain ⟨⟨b50,b51⟩,bf50,bf51⟩:=two_cells B5.out
     obtain ⟨v,hv⟩:=lit4 (-1) 4 0 1 k5 hk5a hk5b
     have hcv:w5.cell? ⟨w4.heap.size,k5.toNat,none⟩=some (.int .i64 v):=(Joins.cell_of_block ((hb5.block w4.heap.size (by simp) hw4).trans (newest _ _)) _).trans hv
     clear hv
     have HR5:Hid (Rd w5 r (B+5)):=hR5
     have HB5:Hid (Bk r _ w5):=hb5
     clear hR5 hb5 hk5 hz5
     clear a40 a41 af40 af41 b40 b41 bf40 bf41 A4 B4 hw4
     go_wp2
     exact bodyPost_ret (v:=.agg #[.int .i64 (4),.int .i64 (v)]) (by simp [results,Tryz.results99,go_sem,a50,a51]) rfl ⟨4,v,rfl,Rd.mono (B:=B+5) (Rd.set (Rd.set (Rd.set HR5.out (by dsimp only;omega) _) (by dsimp only;omega) _) (by dsimp only;omega) _) (by omega),(Bk.set (Bk.set (Bk.set (Bk.trans (Bk.alloc (Bk.trans (Bk.trans (Bk.set (Bk.trans (Bk.trans (Bk.alloc (Bk.alloc (Bk.refl r w) _) _) HB1.out) HB2.out) (Or.inr (by dsimp only;omega)) _) HB3.out) HB4.out) _) HB5.out) (Or.inr (by dsimp only;omega)) _) (Or.inr (by dsimp only;omega)) _) (Or.inr (by dsimp only;omega)) _)⟩
   ·skip
    have e3':(k3 == 0)=false:=beq_eq_false_iff_ne.2 e3
    go_wp2
    exact bodyPost_ret (v:=.agg #[.int .i64 (4),.int .i64 (0)]) (by simp [results,Tryz.results99,go_sem,a30,a31]) rfl ⟨4,0,rfl,Rd.mono (B:=B+3) (Rd.set (Rd.set HR3.out (by dsimp only;omega) _) (by dsimp only;omega) _) (by omega),(Bk.set (Bk.set (Bk.trans (Bk.set (Bk.trans (Bk.trans (Bk.alloc (Bk.alloc (Bk.refl r w) _) _) HB1.out) HB2.out) (Or.inr (by dsimp only;omega)) _) HB3.out) (Or.inr (by dsimp only;omega)) _) (Or.inr (by dsimp only;omega)) _)⟩
  ·have e2':(k2 == 0)=false:=beq_eq_false_iff_ne.2 e2
   go_wp2_with fail
   refine (pick_any r (B+2) _ _ HR2.out (by omega)).mono ?_
   rintro e w3 ⟨k3,rfl,hk3,hR3,hb3⟩
   obtain ⟨hk3a,hk3b⟩:=hk3 (by omega)
   have hz3:=hb3.size
   try simp at hz3
   have hx3:w.heap.size+1 < w3.heap.size:=by omega
   have hw3:w3.heap.size ≠ r:=by omega
   have A3:=Hd ((hb3.block w.heap.size (by first | omega | (simp;omega) | simp) hr0).trans (A2.out))
   have B3:=Hd ((hb3.block (w.heap.size+1) (by first | omega | (simp;omega) | simp) hr1).trans (B2.out))
   obtain ⟨⟨a30,a31⟩,af30,af31⟩:=two_cells A3.out
   obtain ⟨⟨b30,b31⟩,bf30,bf31⟩:=two_cells B3.out
   have HR3:Hid (Rd w3 r (B+3)):=hR3
   have HB3:Hid (Bk r _ w3):=hb3
   clear hR3 hb3 hk3 hz3
   clear a20 a21 af20 af21 b20 b21 bf20 bf21 A2 B2 hw2
   by_cases e3:k3=0
   ·skip
    subst e3
    go_wp2_with fail
    refine (pick_any r (B+3) _ _ HR3.out (by omega)).mono ?_
    rintro e w4 ⟨k4,rfl,hk4,hR4,hb4⟩
    obtain ⟨hk4a,hk4b⟩:=hk4 (by omega)
    have hz4:=hb4.size
    try simp at hz4
    have hx4:w.heap.size+1 < w4.heap.size:=by omega
    have hw4:w4.heap.size ≠ r:=by omega
    have A4:=Hd ((hb4.block w.heap.size (by first | omega | (simp;omega) | simp) hr0).trans (A3.out))
    have B4:=Hd ((hb4.block (w.heap.size+1) (by first | omega | (simp;omega) | simp) hr1).trans (B3.out))
    obtain ⟨⟨a40,a41⟩,af40,af41⟩:=two_cells A4.out
    obtain ⟨⟨b40,b41⟩,bf40,bf41⟩:=two_cells B4.out
    have HR4:Hid (Rd w4 r (B+4)):=hR4
    have HB4:Hid (Bk r _ w4):=hb4
    clear hR4 hb4 hk4 hz4
    clear a30 a31 af30 af31 b30 b31 bf30 bf31 A3 B3 hw3
    by_cases e4:k4=0
    ·subst e4
     go_wp2_with fail
     refine (pick_any r (B+4) _ _ (Rd.alloc HR4.out _) (by omega)).mono ?_
     rintro e w5 ⟨k5,rfl,hk5,hR5,hb5⟩
     obtain ⟨hk5a,hk5b⟩:=hk5 (by omega)
     have hz5:=hb5.size
     try simp at hz5
     have hx5:w.heap.size+1 < w5.heap.size:=by omega
     have hw5:w5.heap.size ≠ r:=by omega
     have A5:=Hd ((hb5.block w.heap.size (by first | omega | (simp;omega) | simp) hr0).trans (more A4.out _))
     have B5:=Hd ((hb5.block (w.heap.size+1) (by first | omega | (simp;omega) | simp) hr1).trans (more B4.out _))
     obtain ⟨⟨a50,a51⟩,af50,af51⟩:=two_cells A5.out
     obtain ⟨⟨b50,b51⟩,bf50,bf51⟩:=two_cells B5.out
     obtain ⟨v,hv⟩:=lit3 (-1) 5 1 k5 hk5a hk5b
     have hcv:w5.cell? ⟨w4.heap.size,k5.toNat,none⟩=some (.int .i64 v):=(Joins.cell_of_block ((hb5.block w4.heap.size (by simp) hw4).trans (newest _ _)) _).trans hv
     clear hv
     have HR5:Hid (Rd w5 r (B+5)):=hR5
     have HB5:Hid (Bk r _ w5):=hb5
     clear hR5 hb5 hk5 hz5
     clear a40 a41 af40 af41 b40 b41 bf40 bf41 A4 B4 hw4
     go_wp2
     exact bodyPost_ret (v:=.agg #[.int .i64 (v),.int .i64 (0)]) (by simp [results,Tryz.results99,go_sem,a50,a51]) rfl ⟨v,0,rfl,Rd.mono (B:=B+5) (Rd.set (Rd.set (Rd.set HR5.out (by dsimp only;omega) _) (by dsimp only;omega) _) (by dsimp only;omega) _) (by omega),(Bk.set (Bk.set (Bk.set (Bk.trans (Bk.alloc (Bk.trans (Bk.trans (Bk.trans (Bk.trans (Bk.alloc (Bk.alloc (Bk.refl r w) _) _) HB1.out) HB2.out) HB3.out) HB4.out) _) HB5.out) (Or.inr (by dsimp only;omega)) _) (Or.inr (by dsimp only;omega)) _) (Or.inr (by dsimp only;omega)) _)⟩
    ·have e4':(k4 == 0)=false:=beq_eq_false_iff_ne.2 e4
     go_wp2_with fail
     refine (pick_any r (B+4) _ _ (Rd.alloc HR4.out _) (by omega)).mono ?_
     rintro e w5 ⟨k5,rfl,hk5,hR5,hb5⟩
     obtain ⟨hk5a,hk5b⟩:=hk5 (by omega)
     have hz5:=hb5.size
     try simp at hz5
     have hx5:w.heap.size+1 < w5.heap.size:=by omega
     have hw5:w5.heap.size ≠ r:=by omega
     have A5:=Hd ((hb5.block w.heap.size (by first | omega | (simp;omega) | simp) hr0).trans (more A4.out _))
     have B5:=Hd ((hb5.block (w.heap.size+1) (by first | omega | (simp;omega) | simp) hr1).trans (more B4.out _))
     obtain ⟨⟨a50,a51⟩,af50,af51⟩:=two_cells A5.out
     obtain ⟨⟨b50,b51⟩,bf50,bf51⟩:=two_cells B5.out
     obtain ⟨v,hv⟩:=lit4 (-1) 4 0 1 k5 hk5a hk5b
     have hcv:w5.cell? ⟨w4.heap.size,k5.toNat,none⟩=some (.int .i64 v):=(Joins.cell_of_block ((hb5.block w4.heap.size (by simp) hw4).trans (newest _ _)) _).trans hv
     clear hv
     have HR5:Hid (Rd w5 r (B+5)):=hR5
     have HB5:Hid (Bk r _ w5):=hb5
     clear hR5 hb5 hk5 hz5
     clear a40 a41 af40 af41 b40 b41 bf40 bf41 A4 B4 hw4
     go_wp2
     exact bodyPost_ret (v:=.agg #[.int .i64 (0),.int .i64 (v)]) (by simp [results,Tryz.results99,go_sem,a50,a51]) rfl ⟨0,v,rfl,Rd.mono (B:=B+5) (Rd.set (Rd.set (Rd.set HR5.out (by dsimp only;omega) _) (by dsimp only;omega) _) (by dsimp only;omega) _) (by omega),(Bk.set (Bk.set (Bk.set (Bk.trans (Bk.alloc (Bk.trans (Bk.trans (Bk.trans (Bk.trans (Bk.alloc (Bk.alloc (Bk.refl r w) _) _) HB1.out) HB2.out) HB3.out) HB4.out) _) HB5.out) (Or.inr (by dsimp only;omega)) _) (Or.inr (by dsimp only;omega)) _) (Or.inr (by dsimp only;omega)) _)⟩
   ·skip
    have e3':(k3 == 0)=false:=beq_eq_false_iff_ne.2 e3
    go_wp2
    exact bodyPost_ret (v:=.agg #[.int .i64 (0),.int .i64 (0)]) (by simp [results,Tryz.results99,go_sem,a30,a31]) rfl ⟨0,0,rfl,Rd.mono (B:=B+3) (Rd.set (Rd.set HR3.out (by dsimp only;omega) _) (by dsimp only;omega) _) (by omega),(Bk.set (Bk.set (Bk.trans (Bk.trans (Bk.trans (Bk.alloc (Bk.alloc (Bk.refl r w) _) _) HB1.out) HB2.out) HB3.out) (Or.inr (by dsimp only;omega)) _) (Or.inr (by dsimp only;omega)) _)⟩
 ·skip
  go_wp2_with fail
  refine (pick_any r (B+1) _ _ HR1.out (by omega)).mono ?_
  rintro e w2 ⟨k2,rfl,hk2,hR2,hb2⟩
  obtain ⟨hk2a,hk2b⟩:=hk2 (by omega)
  have hz2:=hb2.size
  try simp at hz2
  have hx2:w.heap.size+1 < w2.heap.size:=by omega
  have hw2:w2.heap.size ≠ r:=by omega
  have A2:=Hd ((hb2.block w.heap.size (by first | omega | (simp;omega) | simp) hr0).trans (A1.out))
  have B2:=Hd ((hb2.block (w.heap.size+1) (by first | omega | (simp;omega) | simp) hr1).trans (B1.out))
  obtain ⟨⟨a20,a21⟩,af20,af21⟩:=two_cells A2.out
  obtain ⟨⟨b20,b21⟩,bf20,bf21⟩:=two_cells B2.out
  have HR2:Hid (Rd w2 r (B+2)):=hR2
  have HB2:Hid (Bk r _ w2):=hb2
  clear hR2 hb2 hk2 hz2
  clear a10 a11 af10 af11 b10 b11 bf10 bf11 A1 B1 hw1
  by_cases e2:k2=0
  ·skip
   subst e2
   go_wp2_with fail
   refine (pick_any r (B+2) _ _ HR2.out (by omega)).mono ?_
   rintro e w3 ⟨k3,rfl,hk3,hR3,hb3⟩
   obtain ⟨hk3a,hk3b⟩:=hk3 (by omega)
   have hz3:=hb3.size
   try simp at hz3
   have hx3:w.heap.size+1 < w3.heap.size:=by omega
   have hw3:w3.heap.size ≠ r:=by omega
   have A3:=Hd ((hb3.block w.heap.size (by first | omega | (simp;omega) | simp) hr0).trans (A2.out))
   have B3:=Hd ((hb3.block (w.heap.size+1) (by first | omega | (simp;omega) | simp) hr1).trans (B2.out))
   obtain ⟨⟨a30,a31⟩,af30,af31⟩:=two_cells A3.out
   obtain ⟨⟨b30,b31⟩,bf30,bf31⟩:=two_cells B3.out
   have HR3:Hid (Rd w3 r (B+3)):=hR3
   have HB3:Hid (Bk r _ w3):=hb3
   clear hR3 hb3 hk3 hz3
   clear a20 a21 af20 af21 b20 b21 bf20 bf21 A2 B2 hw2
   by_cases e3:k3=0
   ·subst e3
    go_wp2_with fail
    refine (pick_any r (B+3) _ _ (Rd.alloc HR3.out _) (by omega)).mono ?_
    rintro e w4 ⟨k4,rfl,hk4,hR4,hb4⟩
    obtain ⟨hk4a,hk4b⟩:=hk4 (by omega)
    have hz4:=hb4.size
    try simp at hz4
    have hx4:w.heap.size+1 < w4.heap.size:=by omega
    have hw4:w4.heap.size ≠ r:=by omega
    have A4:=Hd ((hb4.block w.heap.size (by first | omega | (simp;omega) | simp) hr0).trans (more A3.out _))
    have B4:=Hd ((hb4.block (w.heap.size+1) (by first | omega | (simp;omega) | simp) hr1).trans (more B3.out _))
    obtain ⟨⟨a40,a41⟩,af40,af41⟩:=two_cells A4.out
    obtain ⟨⟨b40,b41⟩,bf40,bf41⟩:=two_cells B4.out
    obtain ⟨v,hv⟩:=lit3 (-1) 5 1 k4 hk4a hk4b
    have hcv:w4.cell? ⟨w3.heap.size,k4.toNat,none⟩=some (.int .i64 v):=(Joins.cell_of_block ((hb4.block w3.heap.size (by simp) hw3).trans (newest _ _)) _).trans hv
    clear hv
    have HR4:Hid (Rd w4 r (B+4)):=hR4
    have HB4:Hid (Bk r _ w4):=hb4
    clear hR4 hb4 hk4 hz4
    clear a30 a31 af30 af31 b30 b31 bf30 bf31 A3 B3 hw3
    go_wp2
    exact bodyPost_ret (v:=.agg #[.int .i64 (v),.int .i64 (0)]) (by simp [results,Tryz.results99,go_sem,a40,a41]) rfl ⟨v,0,rfl,Rd.mono (B:=B+4) (Rd.set (Rd.set (Rd.set HR4.out (by dsimp only;omega) _) (by dsimp only;omega) _) (by dsimp only;omega) _) (by omega),(Bk.set (Bk.set (Bk.set (Bk.trans (Bk.alloc (Bk.trans (Bk.trans (Bk.trans (Bk.alloc (Bk.alloc (Bk.refl r w) _) _) HB1.out) HB2.out) HB3.out) _) HB4.out) (Or.inr (by dsimp only;omega)) _) (Or.inr (by dsimp only;omega)) _) (Or.inr (by dsimp only;omega)) _)⟩
   ·have e3':(k3 == 0)=false:=beq_eq_false_iff_ne.2 e3
    go_wp2_with fail
    refine (pick_any r (B+3) _ _ (Rd.alloc HR3.out _) (by omega)).mono ?_
    rintro e w4 ⟨k4,rfl,hk4,hR4,hb4⟩
    obtain ⟨hk4a,hk4b⟩:=hk4 (by omega)
    have hz4:=hb4.size
    try simp at hz4
    have hx4:w.heap.size+1 < w4.heap.size:=by omega
    have hw4:w4.heap.size ≠ r:=by omega
    have A4:=Hd ((hb4.block w.heap.size (by first | omega | (simp;omega) | simp) hr0).trans (more A3.out _))
    have B4:=Hd ((hb4.block (w.heap.size+1) (by first | omega | (simp;omega) | simp) hr1).trans (more B3.out _))
    obtain ⟨⟨a40,a41⟩,af40,af41⟩:=two_cells A4.out
    obtain ⟨⟨b40,b41⟩,bf40,bf41⟩:=two_cells B4.out
    obtain ⟨v,hv⟩:=lit4 (-1) 4 0 1 k4 hk4a hk4b
    have hcv:w4.cell? ⟨w3.heap.size,k4.toNat,none⟩=some (.int .i64 v):=(Joins.cell_of_block ((hb4.block w3.heap.size (by simp) hw3).trans (newest _ _)) _).trans hv
    clear hv
    have HR4:Hid (Rd w4 r (B+4)):=hR4
    have HB4:Hid (Bk r _ w4):=hb4
    clear hR4 hb4 hk4 hz4
    clear a30 a31 af30 af31 b30 b31 bf30 bf31 A3 B3 hw3
    go_wp2
    exact bodyPost_ret (v:=.agg #[.int .i64 (0),.int .i64 (v)]) (by simp [results,Tryz.results99,go_sem,a40,a41]) rfl ⟨0,v,rfl,Rd.mono (B:=B+4) (Rd.set (Rd.set (Rd.set HR4.out (by dsimp only;omega) _) (by dsimp only;omega) _) (by dsimp only;omega) _) (by omega),(Bk.set (Bk.set (Bk.set (Bk.trans (Bk.alloc (Bk.trans (Bk.trans (Bk.trans (Bk.alloc (Bk.alloc (Bk.refl r w) _) _) HB1.out) HB2.out) HB3.out) _) HB4.out) (Or.inr (by dsimp only;omega)) _) (Or.inr (by dsimp only;omega)) _) (Or.inr (by dsimp only;omega)) _)⟩
  ·skip
   have e2':(k2 == 0)=false:=beq_eq_false_iff_ne.2 e2
   go_wp2
   exact bodyPost_ret (v:=.agg #[.int .i64 (0),.int .i64 (0)]) (by simp [results,Tryz.results99,go_sem,a20,a21]) rfl ⟨0,0,rfl,Rd.mono (B:=B+2) (Rd.set (Rd.set HR2.out (by dsimp only;omega) _) (by dsimp only;omega) _) (by omega),(Bk.set (Bk.set (Bk.trans (Bk.trans (Bk.alloc (Bk.alloc (Bk.refl r w) _) _) HB1.out) HB2.out) (Or.inr (by dsimp only;omega)) _) (Or.inr (by dsimp only;omega)) _)⟩
end Go.Proofs.YtggmjiddadjilaeGreat
