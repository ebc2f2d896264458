/-
  PROVED HERE: the drawing of a border (l20Brd) gives some border, and turns nothing that was in memory but the reader. Also: 1 more texts of the same proof.
-/
import Derived.Test.YtggmjiddadjilamC10
set_option maxRecDepth 1000000
set_option maxHeartbeats 40000000
namespace Go.Proofs.Ytggmjiddadjilam
open Go.RowKit
theorem z98 (a b c:Int) (k:Int) (h0:0≤k) (h1:k < 3):∃ v:Int,(#[Value.int .i64 a,.int .i64 b,.int .i64 c]:Array Value)[k.toNat]?=some (.int .i64 v):=by
 rcases (by omega:k=0∨k=1∨k=2) with rfl | rfl | rfl <;> exact ⟨_,rfl⟩
theorem z6h (a b c d:Int) (k:Int) (h0:0≤k) (h1:k < 4):∃ v:Int,(#[Value.int .i64 a,.int .i64 b,.int .i64 c,.int .i64 d]:Array Value)[k.toNat]?=some (.int .i64 v):=by
 rcases (by omega:k=0∨k=1∨k=2∨k=3) with rfl | rfl | rfl | rfl <;> exact ⟨_,rfl⟩
theorem zv {w:World} {g:Nat} {x y:Value} {t:TypeId} (h:w.heap[g]?=some (.cells #[x,y] t)) :
  (w.cell? ⟨g,0,none⟩=some x∧w.cell? ⟨g,1,none⟩=some y)∧w.frozen? ⟨g,0,none⟩=false∧w.frozen? ⟨g,1,none⟩=false :=
 ⟨⟨Joins.cell_of_block h 0,Joins.cell_of_block h 1⟩,Joins.unfrozen_of_block h 0,Joins.unfrozen_of_block h 1⟩
theorem zak {w:World} {g:Nat} {x y:Value} {t:TypeId} (h:w.heap[g]?=some (.cells #[x,y] t)) (v:Value):(w.setCell ⟨g,0,none⟩ v).heap[g]?=some (.cells #[v,y] t):=by rw [Joins.block_setCell h];simp
theorem zaM {w:World} {g:Nat} {x y:Value} {t:TypeId} (h:w.heap[g]?=some (.cells #[x,y] t)) (v:Value):(w.setCell ⟨g,1,none⟩ v).heap[g]?=some (.cells #[x,v] t):=by rw [Joins.block_setCell h];simp
theorem z1d {w:World} {g:Nat} {o:Option Obj} (h:w.heap[g]?=o) {p:Addr} (hp:g ≠ p.block) (v:Value):(w.setCell p v).heap[g]?=o:=(Below.heap_setCell _ _ _ _ hp).trans h
theorem z0f {w:World} {g:Nat} {o:Obj} (h:w.heap[g]?=some o) (q:Obj):(w.alloc q).heap[g]?=some o:=(Below.heap_alloc _ _ _ (bL h)).trans h
theorem z2q (w:World) (q:Obj):(w.alloc q).heap[w.heap.size]?=some q:=by show (w.heap.push q)[w.heap.size]?=_;simp
theorem z9U (w:World) (p q:Obj):((w.alloc p).alloc q).heap[w.heap.size+1]?=some q:=by
 have h:=z2q (w.alloc p) q;rw [show (w.alloc p).heap.size=w.heap.size+1 by simp] at h;exact h
theorem z1J (r B:Nat) (n:Int) (hn:1≤n) (w:World) (h:Rd w r B) (hB:B≤900000) :
  Calls Try.prog 82 #[.pointer (some ⟨r,0,none⟩),.int .i64 n] w fun e w'=>∃ x y:Int,e=.returned (.agg #[.int .i64 x,.int .i64 y])∧Rd w' r (B+6)∧Bk r w w':=by
 have hlt:=h.lt;have hr0:w.heap.size ≠ r:=(by omega);have hr1:w.heap.size+1 ≠ r:=(by omega);have HR:Hid (Rd w r B):=h;clear h;go_enter Try.func82,Try.ntmps82;go_wp2_with fail
 refine (zk r (B+0) _ _ (Rd.alloc (Rd.alloc HR.out _) _) (by omega)).mono ?_;rintro e w1 ⟨k1,rfl,hk1,hR1,hb1⟩;obtain ⟨hk1a,hk1b⟩:=hk1 (by omega);have hz1:=hb1.size
 try simp at hz1
 have hx1:w.heap.size+1 < w1.heap.size:=(by omega);have hw1:w1.heap.size ≠ r:=(by omega);have A1:=Hd ((hb1.block w.heap.size (by first | omega | (simp;omega) | simp) hr0).trans (z0f (z2q _ _) _));have B1:=Hd ((hb1.block (w.heap.size+1) (by first | omega | (simp;omega) | simp) hr1).trans (z9U _ _ _));obtain ⟨⟨a10,a11⟩,af10,af11⟩:=zv A1.out;obtain ⟨⟨b10,b11⟩,bf10,bf11⟩:=zv B1.out;have HR1:Hid (Rd w1 r (B+1)):=hR1;have HB1:Hid (Bk r _ w1):=hb1;clear hR1 hb1 hk1 hz1
 rcases (by omega:(k1=0∨k1=1)∨k1=2∨k1=3) with hk | rfl | rfl
 ·rcases hk with rfl | rfl
  all_goals
   go_wp2_with fail
   refine (zk r (B+1) _ _ HR1.out (by omega)).mono ?_;rintro e w2 ⟨k2,rfl,hk2,hR2,hb2⟩;obtain ⟨hk2a,hk2b⟩:=hk2 (by omega);have hz2:=hb2.size
   try simp at hz2
   have hx2:w.heap.size+1 < w2.heap.size:=(by omega);have hw2:w2.heap.size ≠ r:=(by omega);have A2:=Hd ((hb2.block w.heap.size (by first | omega | (simp;omega) | simp) hr0).trans (A1.out));have B2:=Hd ((hb2.block (w.heap.size+1) (by first | omega | (simp;omega) | simp) hr1).trans (B1.out));obtain ⟨⟨a20,a21⟩,af20,af21⟩:=zv A2.out;obtain ⟨⟨b20,b21⟩,bf20,bf21⟩:=zv B2.out;have HR2:Hid (Rd w2 r (B+2)):=hR2;have HB2:Hid (Bk r _ w2):=hb2;clear hR2 hb2 hk2 hz2;clear a10 a11 af10 af11 b10 b11 bf10 bf11 A1 B1 hw1;go_wp2_with fail
   refine (zk r (B+2) _ _ HR2.out (by omega)).mono ?_;rintro e w3 ⟨k3,rfl,hk3,hR3,hb3⟩;obtain ⟨hk3a,hk3b⟩:=hk3 (by omega);have hz3:=hb3.size
   try simp at hz3
   have hx3:w.heap.size+1 < w3.heap.size:=(by omega);have hw3:w3.heap.size ≠ r:=(by omega);have A3:=Hd ((hb3.block w.heap.size (by first | omega | (simp;omega) | simp) hr0).trans (A2.out));have B3:=Hd ((hb3.block (w.heap.size+1) (by first | omega | (simp;omega) | simp) hr1).trans (B2.out));obtain ⟨⟨a30,a31⟩,af30,af31⟩:=zv A3.out;obtain ⟨⟨b30,b31⟩,bf30,bf31⟩:=zv B3.out;have HR3:Hid (Rd w3 r (B+3)):=hR3;have HB3:Hid (Bk r _ w3):=hb3;clear hR3 hb3 hk3 hz3;clear a20 a21 af20 af21 b20 b21 bf20 bf21 A2 B2 hw2;go_wp2_with fail
   refine (zk r (B+3) _ _ (Rd.set (Rd.set HR3.out (by dsimp only;omega) _) (by dsimp only;omega) _) (by omega)).mono ?_;rintro e w4 ⟨k4,rfl,hk4,hR4,hb4⟩;obtain ⟨hk4a,hk4b⟩:=hk4 (by omega);have hz4:=hb4.size
   try simp at hz4
   have hx4:w.heap.size+1 < w4.heap.size:=(by omega);have hw4:w4.heap.size ≠ r:=(by omega);have A4:=Hd ((hb4.block w.heap.size (by first | omega | (simp;omega) | simp) hr0).trans (z1d (z1d A3.out (by dsimp only;omega) _) (by dsimp only;omega) _));have B4:=Hd ((hb4.block (w.heap.size+1) (by first | omega | (simp;omega) | simp) hr1).trans (zaM (zak B3.out _) _));obtain ⟨⟨a40,a41⟩,af40,af41⟩:=zv A4.out;obtain ⟨⟨b40,b41⟩,bf40,bf41⟩:=zv B4.out;have HR4:Hid (Rd w4 r (B+4)):=hR4;have HB4:Hid (Bk r _ w4):=hb4;clear hR4 hb4 hk4 hz4;clear a30 a31 af30 af31 b30 b31 bf30 bf31 A3 B3 hw3;by_cases e4:k4=0
   ·subst e4;go_wp2_with fail
    refine (zk r (B+4) _ _ HR4.out (by omega)).mono ?_;rintro e w5 ⟨k5,rfl,hk5,hR5,hb5⟩;obtain ⟨hk5a,hk5b⟩:=hk5 (by omega);have hz5:=hb5.size
    try simp at hz5
    have hx5:w.heap.size+1 < w5.heap.size:=(by omega);have hw5:w5.heap.size ≠ r:=(by omega);have A5:=Hd ((hb5.block w.heap.size (by first | omega | (simp;omega) | simp) hr0).trans (A4.out));have B5:=Hd ((hb5.block (w.heap.size+1) (by first | omega | (simp;omega) | simp) hr1).trans (B4.out));obtain ⟨⟨a50,a51⟩,af50,af51⟩:=zv A5.out;obtain ⟨⟨b50,b51⟩,bf50,bf51⟩:=zv B5.out;have HR5:Hid (Rd w5 r (B+5)):=hR5;have HB5:Hid (Bk r _ w5):=hb5;clear hR5 hb5 hk5 hz5;clear a40 a41 af40 af41 b40 b41 bf40 bf41 A4 B4 hw4;by_cases e5:k5=0
    ·subst e5;go_wp2_with fail
     refine (zk r (B+5) _ _ (Rd.alloc HR5.out _) (by omega)).mono ?_;rintro e w6 ⟨k6,rfl,hk6,hR6,hb6⟩;obtain ⟨hk6a,hk6b⟩:=hk6 (by omega);have hz6:=hb6.size
     try simp at hz6
     have hx6:w.heap.size+1 < w6.heap.size:=(by omega);have hw6:w6.heap.size ≠ r:=(by omega);have A6:=Hd ((hb6.block w.heap.size (by first | omega | (simp;omega) | simp) hr0).trans (z0f A5.out _));have B6:=Hd ((hb6.block (w.heap.size+1) (by first | omega | (simp;omega) | simp) hr1).trans (z0f B5.out _));obtain ⟨⟨a60,a61⟩,af60,af61⟩:=zv A6.out;obtain ⟨⟨b60,b61⟩,bf60,bf61⟩:=zv B6.out;obtain ⟨v,hv⟩:=z98 (-1) 5 1 k6 hk6a hk6b;have hcv:w6.cell? ⟨w5.heap.size,k6.toNat,none⟩=some (.int .i64 v):=(Joins.cell_of_block ((hb6.block w5.heap.size (by simp) hw5).trans (z2q _ _)) _).trans hv;clear hv;have HR6:Hid (Rd w6 r (B+6)):=hR6;have HB6:Hid (Bk r _ w6):=hb6;clear hR6 hb6 hk6 hz6;clear a50 a51 af50 af51 b50 b51 bf50 bf51 A5 B5 hw5;go_wp2;exact bodyPost_ret (v:=.agg #[.int .i64 (v),.int .i64 (1+k3)]) (by simp [results,Try.results82,go_sem,a60,a61]) rfl ⟨v,1+k3,rfl,Rd.mono (B:=B+6) (Rd.set (Rd.set (Rd.set HR6.out (by dsimp only;omega) _) (by dsimp only;omega) _) (by dsimp only;omega) _) (by omega),(Bk.set (Bk.set (Bk.set (Bk.trans (Bk.alloc (Bk.trans (Bk.trans (Bk.set (Bk.set (Bk.trans (Bk.trans (Bk.trans (Bk.alloc (Bk.alloc (Bk.refl r w) _) _) HB1.out) HB2.out) HB3.out) (Or.inr (by dsimp only;omega)) _) (Or.inr (by dsimp only;omega)) _) HB4.out) HB5.out) _) HB6.out) (Or.inr (by dsimp only;omega)) _) (Or.inr (by dsimp only;omega)) _) (Or.inr (by dsimp only;omega)) _)⟩
    ·have e5':(k5 == 0)=false:=beq_eq_false_iff_ne.2 e5;go_wp2_with fail
     refine (zk r (B+5) _ _ (Rd.alloc HR5.out _) (by omega)).mono ?_;rintro e w6 ⟨k6,rfl,hk6,hR6,hb6⟩;obtain ⟨hk6a,hk6b⟩:=hk6 (by omega);have hz6:=hb6.size
     try simp at hz6
     have hx6:w.heap.size+1 < w6.heap.size:=(by omega);have hw6:w6.heap.size ≠ r:=(by omega);have A6:=Hd ((hb6.block w.heap.size (by first | omega | (simp;omega) | simp) hr0).trans (z0f A5.out _));have B6:=Hd ((hb6.block (w.heap.size+1) (by first | omega | (simp;omega) | simp) hr1).trans (z0f B5.out _));obtain ⟨⟨a60,a61⟩,af60,af61⟩:=zv A6.out;obtain ⟨⟨b60,b61⟩,bf60,bf61⟩:=zv B6.out;obtain ⟨v,hv⟩:=z6h (-1) 4 0 1 k6 hk6a hk6b;have hcv:w6.cell? ⟨w5.heap.size,k6.toNat,none⟩=some (.int .i64 v):=(Joins.cell_of_block ((hb6.block w5.heap.size (by simp) hw5).trans (z2q _ _)) _).trans hv;clear hv;have HR6:Hid (Rd w6 r (B+6)):=hR6;have HB6:Hid (Bk r _ w6):=hb6;clear hR6 hb6 hk6 hz6;clear a50 a51 af50 af51 b50 b51 bf50 bf51 A5 B5 hw5;go_wp2;exact bodyPost_ret (v:=.agg #[.int .i64 (1+k2),.int .i64 (v)]) (by simp [results,Try.results82,go_sem,a60,a61]) rfl ⟨1+k2,v,rfl,Rd.mono (B:=B+6) (Rd.set (Rd.set (Rd.set HR6.out (by dsimp only;omega) _) (by dsimp only;omega) _) (by dsimp only;omega) _) (by omega),(Bk.set (Bk.set (Bk.set (Bk.trans (Bk.alloc (Bk.trans (Bk.trans (Bk.set (Bk.set (Bk.trans (Bk.trans (Bk.trans (Bk.alloc (Bk.alloc (Bk.refl r w) _) _) HB1.out) HB2.out) HB3.out) (Or.inr (by dsimp only;omega)) _) (Or.inr (by dsimp only;omega)) _) HB4.out) HB5.out) _) HB6.out) (Or.inr (by dsimp only;omega)) _) (Or.inr (by dsimp only;omega)) _) (Or.inr (by dsimp only;omega)) _)⟩
   ·have e4':(k4 == 0)=false:=beq_eq_false_iff_ne.2 e4;go_wp2;exact bodyPost_ret (v:=.agg #[.int .i64 (1+k2),.int .i64 (1+k3)]) (by simp [results,Try.results82,go_sem,a40,a41]) rfl ⟨1+k2,1+k3,rfl,Rd.mono (B:=B+4) (Rd.set (Rd.set HR4.out (by dsimp only;omega) _) (by dsimp only;omega) _) (by omega),(Bk.set (Bk.set (Bk.trans (Bk.set (Bk.set (Bk.trans (Bk.trans (Bk.trans (Bk.alloc (Bk.alloc (Bk.refl r w) _) _) HB1.out) HB2.out) HB3.out) (Or.inr (by dsimp only;omega)) _) (Or.inr (by dsimp only;omega)) _) HB4.out) (Or.inr (by dsimp only;omega)) _) (Or.inr (by dsimp only;omega)) _)⟩
 ·go_wp2_with fail
  refine (zk r (B+1) _ _ HR1.out (by omega)).mono ?_;rintro e w2 ⟨k2,rfl,hk2,hR2,hb2⟩;obtain ⟨hk2a,hk2b⟩:=hk2 (by omega);have hz2:=hb2.size
  try simp at hz2
  have hx2:w.heap.size+1 < w2.heap.size:=(by omega);have hw2:w2.heap.size ≠ r:=(by omega);have A2:=Hd ((hb2.block w.heap.size (by first | omega | (simp;omega) | simp) hr0).trans (A1.out));have B2:=Hd ((hb2.block (w.heap.size+1) (by first | omega | (simp;omega) | simp) hr1).trans (B1.out));obtain ⟨⟨a20,a21⟩,af20,af21⟩:=zv A2.out;obtain ⟨⟨b20,b21⟩,bf20,bf21⟩:=zv B2.out;have HR2:Hid (Rd w2 r (B+2)):=hR2;have HB2:Hid (Bk r _ w2):=hb2;clear hR2 hb2 hk2 hz2;clear a10 a11 af10 af11 b10 b11 bf10 bf11 A1 B1 hw1;by_cases e2:k2=0
  all_goals
   first | subst e2 | have e2':(k2 == 0)=false:=beq_eq_false_iff_ne.2 e2
   go_wp2_with fail
   first | refine (zk r (B+2) _ _ (Rd.set HR2.out (by dsimp only;omega) _) (by omega)).mono ?_ | refine (zk r (B+2) _ _ HR2.out (by omega)).mono ?_
   rintro e w3 ⟨k3,rfl,hk3,hR3,hb3⟩;obtain ⟨hk3a,hk3b⟩:=hk3 (by omega);have hz3:=hb3.size
   try simp at hz3
   have hx3:w.heap.size+1 < w3.heap.size:=(by omega);have hw3:w3.heap.size ≠ r:=(by omega);have A3:=Hd ((hb3.block w.heap.size (by first | omega | (simp;omega) | simp) hr0).trans (by first | exact (z1d A2.out (by dsimp only;omega) _) | exact (A2.out)));have B3:=Hd ((hb3.block (w.heap.size+1) (by first | omega | (simp;omega) | simp) hr1).trans (by first | exact (zak B2.out _) | exact (B2.out)));obtain ⟨⟨a30,a31⟩,af30,af31⟩:=zv A3.out;obtain ⟨⟨b30,b31⟩,bf30,bf31⟩:=zv B3.out;have HR3:Hid (Rd w3 r (B+3)):=hR3;have HB3:Hid (Bk r _ w3):=hb3;clear hR3 hb3 hk3 hz3;clear a20 a21 af20 af21 b20 b21 bf20 bf21 A2 B2 hw2;by_cases e3:k3=0
   ·subst e3;go_wp2_with fail
    refine (zk r (B+3) _ _ HR3.out (by omega)).mono ?_;rintro e w4 ⟨k4,rfl,hk4,hR4,hb4⟩;obtain ⟨hk4a,hk4b⟩:=hk4 (by omega);have hz4:=hb4.size
    try simp at hz4
    have hx4:w.heap.size+1 < w4.heap.size:=(by omega);have hw4:w4.heap.size ≠ r:=(by omega);have A4:=Hd ((hb4.block w.heap.size (by first | omega | (simp;omega) | simp) hr0).trans (A3.out));have B4:=Hd ((hb4.block (w.heap.size+1) (by first | omega | (simp;omega) | simp) hr1).trans (B3.out));obtain ⟨⟨a40,a41⟩,af40,af41⟩:=zv A4.out;obtain ⟨⟨b40,b41⟩,bf40,bf41⟩:=zv B4.out;have HR4:Hid (Rd w4 r (B+4)):=hR4;have HB4:Hid (Bk r _ w4):=hb4;clear hR4 hb4 hk4 hz4;clear a30 a31 af30 af31 b30 b31 bf30 bf31 A3 B3 hw3;by_cases e4:k4=0
    ·subst e4;go_wp2_with fail
     refine (zk r (B+4) _ _ (Rd.alloc HR4.out _) (by omega)).mono ?_;rintro e w5 ⟨k5,rfl,hk5,hR5,hb5⟩;obtain ⟨hk5a,hk5b⟩:=hk5 (by omega);have hz5:=hb5.size
     try simp at hz5
     have hx5:w.heap.size+1 < w5.heap.size:=(by omega);have hw5:w5.heap.size ≠ r:=(by omega);have A5:=Hd ((hb5.block w.heap.size (by first | omega | (simp;omega) | simp) hr0).trans (z0f A4.out _));have B5:=Hd ((hb5.block (w.heap.size+1) (by first | omega | (simp;omega) | simp) hr1).trans (z0f B4.out _));obtain ⟨⟨a50,a51⟩,af50,af51⟩:=zv A5.out;obtain ⟨⟨b50,b51⟩,bf50,bf51⟩:=zv B5.out;obtain ⟨v,hv⟩:=z98 (-1) 5 1 k5 hk5a hk5b;have hcv:w5.cell? ⟨w4.heap.size,k5.toNat,none⟩=some (.int .i64 v):=(Joins.cell_of_block ((hb5.block w4.heap.size (by simp) hw4).trans (z2q _ _)) _).trans hv;clear hv;have HR5:Hid (Rd w5 r (B+5)):=hR5;have HB5:Hid (Bk r _ w5):=hb5;clear hR5 hb5 hk5 hz5;clear a40 a41 af40 af41 b40 b41 bf40 bf41 A4 B4 hw4;go_wp2
     first | exact bodyPost_ret (v:=.agg #[.int .i64 (v),.int .i64 (0)]) (by simp [results,Try.results82,go_sem,a50,a51]) rfl ⟨v,0,rfl,Rd.mono (B:=B+5) (Rd.set (Rd.set (Rd.set HR5.out (by dsimp only;omega) _) (by dsimp only;omega) _) (by dsimp only;omega) _) (by omega),(Bk.set (Bk.set (Bk.set (Bk.trans (Bk.alloc (Bk.trans (Bk.trans (Bk.set (Bk.trans (Bk.trans (Bk.alloc (Bk.alloc (Bk.refl r w) _) _) HB1.out) HB2.out) (Or.inr (by dsimp only;omega)) _) HB3.out) HB4.out) _) HB5.out) (Or.inr (by dsimp only;omega)) _) (Or.inr (by dsimp only;omega)) _) (Or.inr (by dsimp only;omega)) _)⟩ | exact bodyPost_ret (v:=.agg #[.int .i64 (v),.int .i64 (0)]) (by simp [results,Try.results82,go_sem,a50,a51]) rfl ⟨v,0,rfl,Rd.mono (B:=B+5) (Rd.set (Rd.set (Rd.set HR5.out (by dsimp only;omega) _) (by dsimp only;omega) _) (by dsimp only;omega) _) (by omega),(Bk.set (Bk.set (Bk.set (Bk.trans (Bk.alloc (Bk.trans (Bk.trans (Bk.trans (Bk.trans (Bk.alloc (Bk.alloc (Bk.refl r w) _) _) HB1.out) HB2.out) HB3.out) HB4.out) _) HB5.out) (Or.inr (by dsimp only;omega)) _) (Or.inr (by dsimp only;omega)) _) (Or.inr (by dsimp only;omega)) _)⟩
    ·have e4':(k4 == 0)=false:=beq_eq_false_iff_ne.2 e4;go_wp2_with fail
     refine (zk r (B+4) _ _ (Rd.alloc HR4.out _) (by omega)).mono ?_;rintro e w5 ⟨k5,rfl,hk5,hR5,hb5⟩;obtain ⟨hk5a,hk5b⟩:=hk5 (by omega);have hz5:=hb5.size
     try simp at hz5
     have hx5:w.heap.size+1 < w5.heap.size:=(by omega);have hw5:w5.heap.size ≠ r:=(by omega);have A5:=Hd ((hb5.block w.heap.size (by first | omega | (simp;omega) | simp) hr0).trans (z0f A4.out _));have B5:=Hd ((hb5.block (w.heap.size+1) (by first | omega | (simp;omega) | simp) hr1).trans (z0f B4.out _));obtain ⟨⟨a50,a51⟩,af50,af51⟩:=zv A5.out;obtain ⟨⟨b50,b51⟩,bf50,bf51⟩:=zv B5.out;obtain ⟨v,hv⟩:=z6h (-1) 4 0 1 k5 hk5a hk5b;have hcv:w5.cell? ⟨w4.heap.size,k5.toNat,none⟩=some (.int .i64 v):=(Joins.cell_of_block ((hb5.block w4.heap.size (by simp) hw4).trans (z2q _ _)) _).trans hv;clear hv;have HR5:Hid (Rd w5 r (B+5)):=hR5;have HB5:Hid (Bk r _ w5):=hb5;clear hR5 hb5 hk5 hz5;clear a40 a41 af40 af41 b40 b41 bf40 bf41 A4 B4 hw4;go_wp2
     first | exact bodyPost_ret (v:=.agg #[.int .i64 (4),.int .i64 (v)]) (by simp [results,Try.results82,go_sem,a50,a51]) rfl ⟨4,v,rfl,Rd.mono (B:=B+5) (Rd.set (Rd.set (Rd.set HR5.out (by dsimp only;omega) _) (by dsimp only;omega) _) (by dsimp only;omega) _) (by omega),(Bk.set (Bk.set (Bk.set (Bk.trans (Bk.alloc (Bk.trans (Bk.trans (Bk.set (Bk.trans (Bk.trans (Bk.alloc (Bk.alloc (Bk.refl r w) _) _) HB1.out) HB2.out) (Or.inr (by dsimp only;omega)) _) HB3.out) HB4.out) _) HB5.out) (Or.inr (by dsimp only;omega)) _) (Or.inr (by dsimp only;omega)) _) (Or.inr (by dsimp only;omega)) _)⟩ | exact bodyPost_ret (v:=.agg #[.int .i64 (0),.int .i64 (v)]) (by simp [results,Try.results82,go_sem,a50,a51]) rfl ⟨0,v,rfl,Rd.mono (B:=B+5) (Rd.set (Rd.set (Rd.set HR5.out (by dsimp only;omega) _) (by dsimp only;omega) _) (by dsimp only;omega) _) (by omega),(Bk.set (Bk.set (Bk.set (Bk.trans (Bk.alloc (Bk.trans (Bk.trans (Bk.trans (Bk.trans (Bk.alloc (Bk.alloc (Bk.refl r w) _) _) HB1.out) HB2.out) HB3.out) HB4.out) _) HB5.out) (Or.inr (by dsimp only;omega)) _) (Or.inr (by dsimp only;omega)) _) (Or.inr (by dsimp only;omega)) _)⟩
   ·have e3':(k3 == 0)=false:=beq_eq_false_iff_ne.2 e3;go_wp2
    first | exact bodyPost_ret (v:=.agg #[.int .i64 (4),.int .i64 (0)]) (by simp [results,Try.results82,go_sem,a30,a31]) rfl ⟨4,0,rfl,Rd.mono (B:=B+3) (Rd.set (Rd.set HR3.out (by dsimp only;omega) _) (by dsimp only;omega) _) (by omega),(Bk.set (Bk.set (Bk.trans (Bk.set (Bk.trans (Bk.trans (Bk.alloc (Bk.alloc (Bk.refl r w) _) _) HB1.out) HB2.out) (Or.inr (by dsimp only;omega)) _) HB3.out) (Or.inr (by dsimp only;omega)) _) (Or.inr (by dsimp only;omega)) _)⟩ | exact bodyPost_ret (v:=.agg #[.int .i64 (0),.int .i64 (0)]) (by simp [results,Try.results82,go_sem,a30,a31]) rfl ⟨0,0,rfl,Rd.mono (B:=B+3) (Rd.set (Rd.set HR3.out (by dsimp only;omega) _) (by dsimp only;omega) _) (by omega),(Bk.set (Bk.set (Bk.trans (Bk.trans (Bk.trans (Bk.alloc (Bk.alloc (Bk.refl r w) _) _) HB1.out) HB2.out) HB3.out) (Or.inr (by dsimp only;omega)) _) (Or.inr (by dsimp only;omega)) _)⟩
 ·go_wp2_with fail
  refine (zk r (B+1) _ _ HR1.out (by omega)).mono ?_;rintro e w2 ⟨k2,rfl,hk2,hR2,hb2⟩;obtain ⟨hk2a,hk2b⟩:=hk2 (by omega);have hz2:=hb2.size
  try simp at hz2
  have hx2:w.heap.size+1 < w2.heap.size:=(by omega);have hw2:w2.heap.size ≠ r:=(by omega);have A2:=Hd ((hb2.block w.heap.size (by first | omega | (simp;omega) | simp) hr0).trans (A1.out));have B2:=Hd ((hb2.block (w.heap.size+1) (by first | omega | (simp;omega) | simp) hr1).trans (B1.out));obtain ⟨⟨a20,a21⟩,af20,af21⟩:=zv A2.out;obtain ⟨⟨b20,b21⟩,bf20,bf21⟩:=zv B2.out;have HR2:Hid (Rd w2 r (B+2)):=hR2;have HB2:Hid (Bk r _ w2):=hb2;clear hR2 hb2 hk2 hz2;clear a10 a11 af10 af11 b10 b11 bf10 bf11 A1 B1 hw1;by_cases e2:k2=0
  ·subst e2;go_wp2_with fail
   refine (zk r (B+2) _ _ HR2.out (by omega)).mono ?_;rintro e w3 ⟨k3,rfl,hk3,hR3,hb3⟩;obtain ⟨hk3a,hk3b⟩:=hk3 (by omega);have hz3:=hb3.size
   try simp at hz3
   have hx3:w.heap.size+1 < w3.heap.size:=(by omega);have hw3:w3.heap.size ≠ r:=(by omega);have A3:=Hd ((hb3.block w.heap.size (by first | omega | (simp;omega) | simp) hr0).trans (A2.out));have B3:=Hd ((hb3.block (w.heap.size+1) (by first | omega | (simp;omega) | simp) hr1).trans (B2.out));obtain ⟨⟨a30,a31⟩,af30,af31⟩:=zv A3.out;obtain ⟨⟨b30,b31⟩,bf30,bf31⟩:=zv B3.out;have HR3:Hid (Rd w3 r (B+3)):=hR3;have HB3:Hid (Bk r _ w3):=hb3;clear hR3 hb3 hk3 hz3;clear a20 a21 af20 af21 b20 b21 bf20 bf21 A2 B2 hw2;by_cases e3:k3=0
   ·subst e3;go_wp2_with fail
    refine (zk r (B+3) _ _ (Rd.alloc HR3.out _) (by omega)).mono ?_;rintro e w4 ⟨k4,rfl,hk4,hR4,hb4⟩;obtain ⟨hk4a,hk4b⟩:=hk4 (by omega);have hz4:=hb4.size
    try simp at hz4
    have hx4:w.heap.size+1 < w4.heap.size:=(by omega);have hw4:w4.heap.size ≠ r:=(by omega);have A4:=Hd ((hb4.block w.heap.size (by first | omega | (simp;omega) | simp) hr0).trans (z0f A3.out _));have B4:=Hd ((hb4.block (w.heap.size+1) (by first | omega | (simp;omega) | simp) hr1).trans (z0f B3.out _));obtain ⟨⟨a40,a41⟩,af40,af41⟩:=zv A4.out;obtain ⟨⟨b40,b41⟩,bf40,bf41⟩:=zv B4.out;obtain ⟨v,hv⟩:=z98 (-1) 5 1 k4 hk4a hk4b;have hcv:w4.cell? ⟨w3.heap.size,k4.toNat,none⟩=some (.int .i64 v):=(Joins.cell_of_block ((hb4.block w3.heap.size (by simp) hw3).trans (z2q _ _)) _).trans hv;clear hv;have HR4:Hid (Rd w4 r (B+4)):=hR4;have HB4:Hid (Bk r _ w4):=hb4;clear hR4 hb4 hk4 hz4;clear a30 a31 af30 af31 b30 b31 bf30 bf31 A3 B3 hw3;go_wp2;exact bodyPost_ret (v:=.agg #[.int .i64 (v),.int .i64 (0)]) (by simp [results,Try.results82,go_sem,a40,a41]) rfl ⟨v,0,rfl,Rd.mono (B:=B+4) (Rd.set (Rd.set (Rd.set HR4.out (by dsimp only;omega) _) (by dsimp only;omega) _) (by dsimp only;omega) _) (by omega),(Bk.set (Bk.set (Bk.set (Bk.trans (Bk.alloc (Bk.trans (Bk.trans (Bk.trans (Bk.alloc (Bk.alloc (Bk.refl r w) _) _) HB1.out) HB2.out) HB3.out) _) HB4.out) (Or.inr (by dsimp only;omega)) _) (Or.inr (by dsimp only;omega)) _) (Or.inr (by dsimp only;omega)) _)⟩
   ·have e3':(k3 == 0)=false:=beq_eq_false_iff_ne.2 e3;go_wp2_with fail
    refine (zk r (B+3) _ _ (Rd.alloc HR3.out _) (by omega)).mono ?_;rintro e w4 ⟨k4,rfl,hk4,hR4,hb4⟩;obtain ⟨hk4a,hk4b⟩:=hk4 (by omega);have hz4:=hb4.size
    try simp at hz4
    have hx4:w.heap.size+1 < w4.heap.size:=(by omega);have hw4:w4.heap.size ≠ r:=(by omega);have A4:=Hd ((hb4.block w.heap.size (by first | omega | (simp;omega) | simp) hr0).trans (z0f A3.out _));have B4:=Hd ((hb4.block (w.heap.size+1) (by first | omega | (simp;omega) | simp) hr1).trans (z0f B3.out _));obtain ⟨⟨a40,a41⟩,af40,af41⟩:=zv A4.out;obtain ⟨⟨b40,b41⟩,bf40,bf41⟩:=zv B4.out;obtain ⟨v,hv⟩:=z6h (-1) 4 0 1 k4 hk4a hk4b;have hcv:w4.cell? ⟨w3.heap.size,k4.toNat,none⟩=some (.int .i64 v):=(Joins.cell_of_block ((hb4.block w3.heap.size (by simp) hw3).trans (z2q _ _)) _).trans hv;clear hv;have HR4:Hid (Rd w4 r (B+4)):=hR4;have HB4:Hid (Bk r _ w4):=hb4;clear hR4 hb4 hk4 hz4;clear a30 a31 af30 af31 b30 b31 bf30 bf31 A3 B3 hw3;go_wp2;exact bodyPost_ret (v:=.agg #[.int .i64 (0),.int .i64 (v)]) (by simp [results,Try.results82,go_sem,a40,a41]) rfl ⟨0,v,rfl,Rd.mono (B:=B+4) (Rd.set (Rd.set (Rd.set HR4.out (by dsimp only;omega) _) (by dsimp only;omega) _) (by dsimp only;omega) _) (by omega),(Bk.set (Bk.set (Bk.set (Bk.trans (Bk.alloc (Bk.trans (Bk.trans (Bk.trans (Bk.alloc (Bk.alloc (Bk.refl r w) _) _) HB1.out) HB2.out) HB3.out) _) HB4.out) (Or.inr (by dsimp only;omega)) _) (Or.inr (by dsimp only;omega)) _) (Or.inr (by dsimp only;omega)) _)⟩
  ·have e2':(k2 == 0)=false:=beq_eq_false_iff_ne.2 e2;go_wp2;exact bodyPost_ret (v:=.agg #[.int .i64 (0),.int .i64 (0)]) (by simp [results,Try.results82,go_sem,a20,a21]) rfl ⟨0,0,rfl,Rd.mono (B:=B+2) (Rd.set (Rd.set HR2.out (by dsimp only;omega) _) (by dsimp only;omega) _) (by omega),(Bk.set (Bk.set (Bk.trans (Bk.trans (Bk.alloc (Bk.alloc (Bk.refl r w) _) _) HB1.out) HB2.out) (Or.inr (by dsimp only;omega)) _) (Or.inr (by dsimp only;omega)) _)⟩
def zaN:Array Value:=#[.int .i64 1,.int .i64 1,.int .i64 1,.int .i64 2,.int .i64 3,.int .i64 4]
def zaO:Array Value:=#[.int .i64 1,.int .i64 1,.int .i64 1,.int .i64 1,.int .i64 2,.int .i64 3]
def z0o:Array Value:=#[.string ⟨#[]⟩,.int .i64 0,.int .i64 0,.int .i64 0,.int .i64 0,.int .i64 0,.int .i64 0,.int .i64 0,.int .i64 0,.int .i64 0,.int .i64 0]
def PCs (s:ByteArray) (c q:Int):Prop:=s.size≤30∧(1≤c∧c≤4)∧1≤q∧q≤3
def PC (u:Value):Prop:=∃ s c q,u=.agg #[.string s,.int .i64 c,.int .i64 q,.int .i64 0,.int .i64 0,.int .i64 0,.int .i64 0,.int .i64 0,.int .i64 0,.int .i64 0,.int .i64 0]∧PCs s c q
def zau (s:ByteArray) (c q:Int):Obj:=.cells #[.string s,.int .i64 c,.int .i64 q,.int .i64 0,.int .i64 0,.int .i64 0,.int .i64 0,.int .i64 0,.int .i64 0,.int .i64 0,.int .i64 0] 35
theorem at6 {x0 x1 x2 x3 x4 x5:Int} {lo hi:Int} (h:(lo≤x0∧x0≤hi)∧(lo≤x1∧x1≤hi)∧(lo≤x2∧x2≤hi)∧(lo≤x3∧x3≤hi)∧(lo≤x4∧x4≤hi)∧lo≤x5∧x5≤hi) (k:Int) (h0:0≤k) (h1:k≤5) :
  ∃ v:Int,(#[.int .i64 x0,.int .i64 x1,.int .i64 x2,.int .i64 x3,.int .i64 x4,.int .i64 x5]:Array Value)[k.toNat]?=some (.int .i64 v)∧lo≤v∧v≤hi:=by
 rcases (by omega:k=0∨k=1∨k=2∨k=3∨k=4∨k=5) with rfl | rfl | rfl | rfl | rfl | rfl
 ·exact ⟨x0,rfl,h.1⟩
 ·exact ⟨x1,rfl,h.2.1⟩
 ·exact ⟨x2,rfl,h.2.2.1⟩
 ·exact ⟨x3,rfl,h.2.2.2.1⟩
 ·exact ⟨x4,rfl,h.2.2.2.2.1⟩
 ·exact ⟨x5,rfl,h.2.2.2.2.2⟩
theorem at3 (k:Int) (h0:0≤k) (h1:k < 3):∃ v:Int,(#[Value.int .i64 0,.int .i64 5,.int .i64 (-1)]:Array Value)[k.toNat]?=some (.int .i64 v)∧(v≤3∨v=5):=by
 rcases (by omega:k=0∨k=1∨k=2) with rfl | rfl | rfl
 ·exact ⟨0,rfl,by omega⟩
 ·exact ⟨5,rfl,by omega⟩
 ·exact ⟨-1,rfl,by omega⟩
def cnt (L:Nat→Bool):Nat:=(if L 1=true then 6 else 0)+(if L 4=true then 1 else 0)+(if L 9=true then 1 else 0)
theorem z4C (L:Nat→Bool):cnt L≤8:=by unfold cnt;split <;> split <;> split <;> omega
theorem z11 {L:Nat→Bool} {i:Nat} (h:i ≠ 1∧i ≠ 4∧i ≠ 9):cnt (upd L i)=cnt L:=by
 have h1:1 ≠ i:=fun e=>h.1 e.symm;have h4:4 ≠ i:=fun e=>h.2.1 e.symm;have h9:9 ≠ i:=fun e=>h.2.2 e.symm;simp [cnt,upd,h1,h4,h9]
theorem zav {L:Nat→Bool} (h:L 1=false):cnt (upd L 1)=cnt L+6:=by simp [cnt,upd,h];omega
theorem zaw {L:Nat→Bool} (h:L 4=false):cnt (upd L 4)=cnt L+1:=by simp [cnt,upd,h];omega
theorem zax {L:Nat→Bool} (h:L 9=false):cnt (upd L 9)=cnt L+1:=by simp [cnt,upd,h]
structure zay (r B n0:Nat) (w0:World) (L:Nat→Bool) (w:World) (v5 v6 v7 v8 v9 v10 v11 v12 v13 v14 v15 v16 v17 v18:Value):Prop where
 f0:L 0=true→v6=.pointer (some ⟨r,0,none⟩)
 f1:L 1=true→PS 30 v7
 f2:L 2=true→PL n0 w 6 zaN v8
 f3:L 3=true→v9=.pointer (some ⟨r,0,none⟩)
 f4:L 4=true→PI 0 5 v10
 f5:L 5=true→PA n0 w 1 4 v11
 f6:L 6=true→PI 1 4 v12
 f7:L 7=true→PL n0 w 6 zaO v13
 f8:L 8=true→v14=.pointer (some ⟨r,0,none⟩)
 f9:L 9=true→PI 0 5 v15
 f10:L 10=true→PA n0 w 1 3 v16
 f11:L 11=true→PI 1 3 v17
 f12:L 12=true→PC v18
 f13:L 13=true→∃ g,v5=.pointer (some ⟨g,0,none⟩)∧n0 < g∧(L 14=false→Hp n0 w g (.cells z0o 35))
 f14:L 14=true→∃ g s c q,v5=.pointer (some ⟨g,0,none⟩)∧n0 < g∧Hp n0 w g (zau s c q)∧PCs s c q
 o14:L 14=true→L 13=true
 rd:Rd w r (B+cnt L)
 bk:Bk r w0 w
 hp:Hp n0 w n0 (.cells z0o 35)
def zaz (r B n0:Nat) (n:Int) (w0:World) (L:Nat→Bool) (a:Act) (w:World):Prop:=∃ v5 v6 v7 v8 v9 v10 v11 v12 v13 v14 v15 v16 v17 v18:Value,a=⟨#[.pointer (some ⟨r,0,none⟩),.int .i64 n,undef,undef,.pointer (some ⟨n0,0,none⟩),v5,v6,v7,v8,v9,v10,v11,v12,v13,v14,v15,v16,v17,v18,undef,undef,undef,undef,undef,undef,undef,undef,undef,undef,undef,undef,undef,undef,undef,undef,undef,undef,undef,undef,undef,undef,undef,undef,undef,undef,undef,undef,undef,undef,undef,undef,undef,undef,undef,undef,undef,undef,undef,undef,undef,undef,undef,undef,undef,undef,undef,undef,undef,undef,undef],[]⟩∧zay r B n0 w0 L w v5 v6 v7 v8 v9 v10 v11 v12 v13 v14 v15 v16 v17 v18
end Go.Proofs.Ytggmjiddadjilam
