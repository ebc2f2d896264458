/-
  PROVED HERE: where each cell of a drawn table's grid stands: in its row, behind the one ahead of it, at the first column at which it is free; the grid is ok; it has as many cells as the table. Also: 10 more texts of the same proof.
-/
import Derived.Test.YtggmjiddadjilamB15
import Derived.Test.YtggmjiddadjilamB13
set_option maxRecDepth 1000000
set_option maxHeartbeats 40000000
namespace Go.Proofs.Ytggmjiddadjilam
section
theorem z21 {α:Type} {l:List α} {x d:α} {k:Nat} (h:k < l.length):(l ++ [x]).getD k d=l.getD k d:=by
 simp [List.getD,List.getElem?_append_left h]
theorem z1h {α:Type} {l:List α} {x d:α}:(l ++ [x]).getD l.length d=x:=by simp [List.getD]
theorem z2D {α:Type} {l:List α} {x:α} {k:Nat} (h:k≤l.length):(l ++ [x]).take k=l.take k:=by
 rw [List.take_append_of_le_length h]
theorem z4D (gs:List GC) (r i:Nat) (e:Int) (x:C) (c:Int):z07 (z0F gs r i e x) c=z07 (z1q r i e x) c:=by simp only [z0F,z07]
theorem z5T (gs:List GC) (r i:Nat) (e:Int) (x:C):(z0F gs r i e x).col=(z1J gs (z1q r i e x):Int):=by simp only [z0F,z07]
structure z4g (t:T) (gs:List GC) (k:Nat):Prop where
 ex:∃ r j:Nat,r < t.rows.length∧j < (t.rows.getD r dR).cells.length∧gs.getD k dG=z0F (gs.take k) r j (zt t r) ((t.rows.getD r dR).cells.getD j dC)
 free:z0k (gs.take k) (gs.getD k dG)=true
 first:∀ c:Nat,(c:Int) < (gs.getD k dG).col→z0k (gs.take k) (z07 (gs.getD k dG) c)=false
 after:0 < k→(gs.getD (k - 1) dG).row < (gs.getD k dG).row∨(gs.getD (k - 1) dG).row=(gs.getD k dG).row∧(gs.getD (k - 1) dG).ins+1=(gs.getD k dG).ins
theorem z4g.snoc {t:T} {gs:List GC} {k:Nat} (x:GC) (hk:k < gs.length) (h:z4g t gs k):z4g t (gs ++ [x]) k:=by
 have e1:(gs ++ [x]).getD k dG=gs.getD k dG:=z21 hk;have e2:(gs ++ [x]).take k=gs.take k:=z2D (by omega);have e3:(gs ++ [x]).getD (k - 1) dG=gs.getD (k - 1) dG:=z21 (by omega);refine ⟨?_,?_,?_,?_⟩
 ·rw [e1,e2];exact h.ex
 ·rw [e1,e2];exact h.free
 ·rw [e1,e2];exact h.first
 ·rw [e1,e3];exact h.after
structure z13 (t:T) (gs:List GC) (r i:Nat):Prop where
 part:z1b t gs r i
 laid:∀ k,k < gs.length→z4g t gs k
 last:0 < gs.length→(gs.getD (gs.length - 1) dG).row < r∨(gs.getD (gs.length - 1) dG).row=r∧(gs.getD (gs.length - 1) dG).ins+1=i
theorem z13.next {t:T} {gs:List GC} {r i:Nat} (h:z13 t gs r i) (hl:Low t) (hr:r < t.rows.length) (hi:i < (t.rows.getD r dR).cells.length) :
  z13 t (gs ++ [z0F gs r i (zt t r) ((t.rows.getD r dR).cells.getD i dC)]) r (i+1):=by
 obtain ⟨⟨h1,h2,h3,h4⟩,hp⟩:=h.part.next hl hr hi;refine ⟨hp,?_,?_⟩
 ·intro k hk;rw [List.length_append,List.length_singleton] at hk;by_cases hk2:k < gs.length
  ·exact (h.laid k hk2).snoc _ hk2
  ·obtain rfl:k=gs.length:=by omega
   have e2:∀ x:GC,(gs ++ [x]).take gs.length=gs:=fun x=>by rw [z2D (Nat.le_refl _),List.take_length]
   refine ⟨?_,?_,?_,?_⟩
   ·rw [z1h,e2];exact ⟨r,i,hr,hi,rfl⟩
   ·rw [z1h,e2];exact h2
   ·rw [z1h,e2];intro c hc;rw [z5T] at hc;rw [z4D];exact h3 c (Int.ofNat_lt.1 hc)
   ·intro h0;rw [z1h,z21 (by omega)];exact h.last h0
 ·intro _;rw [List.length_append,List.length_singleton,Nat.add_sub_cancel,z1h];refine .inr ⟨rfl,?_⟩;show (i:Int)+1=((i+1:Nat):Int);omega
theorem z13.zero (t:T):z13 t [] 0 0:=⟨z1b.zero t,fun _ hk=>absurd hk (Nat.not_lt_zero _),fun h=>absurd h (Nat.lt_irrefl _)⟩
theorem z13.rowEnd {t:T} {gs:List GC} {r:Nat} (h:z13 t gs r (t.rows.getD r dR).cells.length):z13 t gs (r+1) 0:=by
 refine ⟨h.part.rowEnd,h.laid,fun h0=>.inl ?_⟩
 rcases h.last h0 with h1 | ⟨h1,_⟩ <;> omega
theorem z4h {t:T} (hl:Low t) {r:Nat} (hr:r < t.rows.length) (h:z13 t (zv t r) r 0):∀ i,i≤(t.rows.getD r dR).cells.length→z13 t (z0n (zt t r) r (t.rows.getD r dR).cells (zv t r) i) r i
 | 0,_=>h
 | i+1,hi=>z13.next (z4h hl hr h i (by omega)) hl hr (by omega)
theorem z3L {t:T} (hl:Low t):∀ r,r≤t.rows.length→z13 t (zv t r) r 0
 | 0,_=>z13.zero t
 | r+1,hr=>(z4h hl (by omega) (z3L hl r (by omega)) _ (Nat.le_refl _)).rowEnd
theorem z6N {t:T} (hl:Low t) {k:Nat} (hk:k < (zR t).length):z4g t (zR t) k:=(z3L hl _ (Nat.le_refl _)).laid k hk
theorem z26 {t:T} (hl:Low t) {a:GC} (ha:a ∈ zR t):z0h t.rows.length a:=((z24 hl _ (Nat.le_refl _)).stands a ha).1
theorem z2f (m:Int) (a:GC) (gs:List GC):zQ m (a :: gs)=zQ (max m (a.col+a.cols)) gs:=rfl
theorem z2E:∀ (gs:List GC) (m:Int),m≤zQ m gs
 | [],m=>Int.le_refl _
 | a :: gs,m=>by rw [z2f];exact Int.le_trans (Int.le_max_left _ _) (z2E gs _)
theorem z3j:∀ {gs:List GC} {m:Int} {a:GC},a ∈ gs→a.col+a.cols≤zQ m gs
 | b :: gs,m,a,h=>by
  rw [z2f]
  rcases List.mem_cons.1 h with rfl | h
  ·exact Int.le_trans (Int.le_max_right _ _) (z2E gs _)
  ·exact z3j h
theorem z3M:∀ {gs:List GC} {m B:Int},m≤B→(∀ a ∈ gs,a.col+a.cols≤B)→zQ m gs≤B
 | [],m,B,h,_=>h
 | a :: gs,m,B,h,h2=>by
  rw [z2f];exact z3M (Int.max_le.2 ⟨h,h2 a (by simp)⟩) (fun b hb=>h2 b (by simp [hb]))
theorem z4E {t:T} (hl:Low t) (hc:t.cols.length≤8):1≤zQ (max 1 (t.cols.length:Int)) (zR t)∧zQ (max 1 (t.cols.length:Int)) (zR t)≤88∧(t.cols.length:Int)≤zQ (max 1 (t.cols.length:Int)) (zR t):=by
 have h1:=z2E (zR t) (max 1 (t.cols.length:Int));have h2:zQ (max 1 (t.cols.length:Int)) (zR t)≤88:=z3M (by omega) (fun a ha=>by have:=z26 hl ha;unfold z0h at this;omega);omega
end
section
open Go.RowKit
def TA (w:World) (z:Nat) (ac ar:Option Addr) (cc cr:Nat) (t:T):Prop:=zY w z (.slice ac t.cols.length cc) t.cols∧zD w z (.slice ar t.rows.length cr) t.rows
theorem TA.kept {w w':World} {z:Nat} {ac ar:Option Addr} {cc cr:Nat} {t:T} (h:TA w z ac ar cc cr t) (hb:Below w.heap.size w w'):TA w' z ac ar cc cr t:=⟨h.1.kept hb,h.2.kept hb⟩
def St (w:World) (tb:Nat) (ac ar:Option Addr) (cc cr:Nat) (t:T) (W:World):Prop:=Below w.heap.size w W∧TA W w.heap.size ac ar cc cr t∧W.heap[tb]?=some (.cells #[.slice ac t.cols.length cc,.int .i64 t.head,.int .i64 t.foot,.slice ar t.rows.length cr,.int .i64 t.gap] 26)
theorem St.kept {w W W':World} {tb:Nat} {ac ar:Option Addr} {cc cr:Nat} {t:T} (h:St w tb ac ar cc cr t W) (hb:Below W.heap.size W W'):St w tb ac ar cc cr t W' :=
 ⟨h.1.trans (hb.mono h.1.size),h.2.1.kept hb,(hb.block tb (bL h.2.2)).trans h.2.2⟩
theorem St.at {w W:World} {tb:Nat} {ac ar:Option Addr} {cc cr:Nat} {t:T} (h:St w tb ac ar cc cr t W):(W.cell? ⟨tb,0,none⟩=some (.slice ac t.cols.length cc)∧W.cell? ⟨tb,1,none⟩=some (.int .i64 t.head)∧W.cell? ⟨tb,2,none⟩=some (.int .i64 t.foot)∧W.cell? ⟨tb,3,none⟩=some (.slice ar t.rows.length cr)∧W.cell? ⟨tb,4,none⟩=some (.int .i64 t.gap)):=(z0c h.2.2).1
theorem z4S {t:T} (hD:z0o t):∀ x ∈ (gOf t).cells,GOk x:=by
 unfold gOf
 split
 ·rename_i h
  have hl:=z2C h hD;exact fun x hx=>(z26 hl hx).gok hl.rows
 ·intro x hx
  cases hx
def SGr (w:World) (tb gb:Nat) (ac ar:Option Addr) (cc cr:Nat) (t:T) (ag:Option Addr) (cg:Nat) (W:World):Prop :=
 St w tb ac ar cc cr t W∧z03 W w.heap.size (.slice ag (gOf t).cells.length cg) (gOf t).cells∧W.heap[gb]?=some (.cells #[.int .i64 (gOf t).rows,.int .i64 (gOf t).cols,.slice ag (gOf t).cells.length cg] 98)
theorem SGr.kept {w W W':World} {tb gb:Nat} {ac ar ag:Option Addr} {cc cr cg:Nat} {t:T} (h:SGr w tb gb ac ar cc cr t ag cg W) (hb:Below W.heap.size W W'):SGr w tb gb ac ar cc cr t ag cg W' :=
 ⟨h.1.kept hb,h.2.1.kept hb,(hb.block gb (bL h.2.2)).trans h.2.2⟩
theorem SGr.at {w W:World} {tb gb:Nat} {ac ar ag:Option Addr} {cc cr cg:Nat} {t:T} (h:SGr w tb gb ac ar cc cr t ag cg W):W.cell? ⟨gb,0,none⟩=some (.int .i64 (gOf t).rows)∧W.cell? ⟨gb,1,none⟩=some (.int .i64 (gOf t).cols)∧W.cell? ⟨gb,2,none⟩=some (.slice ag (gOf t).cells.length cg) :=
 ⟨zc h.2.2,zc h.2.2,zc h.2.2⟩
theorem z3N {w:World} {base:Nat} {v:Value} {gs:List GC} (h:z20 w base v gs):∃ a cap,v=.slice a gs.length cap:=by
 rcases h.2 with ⟨rfl,hn⟩ | ⟨g,cap,cur,rfl,_⟩
 ·exact ⟨none,0,by rw [hn]⟩
 ·exact ⟨_,cap,rfl⟩
theorem z4i {t:T} (h:zI t=true):gOf t=⟨t.rows.length,zQ (max 1 (t.cols.length:Int)) (zR t),zR t⟩:=by unfold gOf;rw [if_pos h]
theorem z4j {t:T} (h:zI t=false):gOf t=⟨0,0,[]⟩:=by unfold gOf;rw [if_neg (by rw [h];simp)]
def SCe (w:World) (tb gb cb:Nat) (ac ar:Option Addr) (cc cr:Nat) (t:T) (ag:Option Addr) (cg:Nat) (x:GC) (W:World):Prop :=
 SGr w tb gb ac ar cc cr t ag cg W∧W.heap[cb]?=some (.cells #[.int .i64 x.row,.int .i64 x.col,.int .i64 x.rows,.int .i64 x.cols,.int .i64 x.ins] 115)
theorem SCe.kept {w W W':World} {tb gb cb:Nat} {ac ar ag:Option Addr} {cc cr cg:Nat} {t:T} {x:GC} (h:SCe w tb gb cb ac ar cc cr t ag cg x W) (hb:Below W.heap.size W W'):SCe w tb gb cb ac ar cc cr t ag cg x W' :=
 ⟨h.1.kept hb,(hb.block cb (bL h.2)).trans h.2⟩
theorem SCe.at {w W:World} {tb gb cb:Nat} {ac ar ag:Option Addr} {cc cr cg:Nat} {t:T} {x:GC} (h:SCe w tb gb cb ac ar cc cr t ag cg x W):W.cell? ⟨cb,0,none⟩=some (.int .i64 x.row)∧W.cell? ⟨cb,1,none⟩=some (.int .i64 x.col)∧W.cell? ⟨cb,2,none⟩=some (.int .i64 x.rows)∧W.cell? ⟨cb,3,none⟩=some (.int .i64 x.cols)∧W.cell? ⟨cb,4,none⟩=some (.int .i64 x.ins) :=
 ⟨zc h.2,zc h.2,zc h.2,zc h.2,zc h.2⟩
def z6z (x:GC):Prop:=(0≤x.row∧x.row≤8)∧(0≤x.col∧x.col≤84)∧(1≤x.rows∧x.rows≤3)∧(1≤x.cols∧x.cols≤4)∧0≤x.ins∧x.ins≤4
theorem z0h.small {n:Nat} {a:GC} (hn:n≤8) (h:z0h n a):z6z a:=by
 unfold z0h at h;unfold z6z;omega
structure Cel (t:T) (C:Nat) (x:GC):Prop where
 ex:∃ rn jn cn mn:Nat,x.row=rn∧x.ins=jn∧x.col=cn∧x.cols=mn∧rn < t.rows.length∧jn < (t.rows.getD rn dR).cells.length∧cn+mn≤C∧1≤mn∧mn≤4
 gap:0≤t.gap∧t.gap≤3
 rows:0≤x.rows∧x.rows≤8
theorem z4k {t:T} (hD:z0o t):(gOf t).cells.length≤40∧∃ C:Nat,(gOf t).cols=C∧C≤88∧∀ k,k < (gOf t).cells.length→Cel t C ((gOf t).cells.getD k dG):=by
 cases h:zI t with
 | false=>rw [z4j h];exact ⟨by simp,0,rfl,by omega,fun k hk=>absurd hk (Nat.not_lt_zero _)⟩
 | true =>
  have hl:=z2C h hD;have h8:=hl.rows;have h40:=z30 hl t.rows.length
  have hg:0≤t.gap∧t.gap≤3:=by
   simp only [zI,inB,Bool.and_eq_true,decide_eq_true_eq] at h;exact h.2.2.1
  have hc:t.cols.length≤8:=by
   simp only [zI,z0X,Bool.and_eq_true,decide_eq_true_eq] at h;omega
  have hcb:=z4E hl hc;rw [z4i h];refine ⟨by show (zv t t.rows.length).length≤40;omega,(zQ (max 1 (t.cols.length:Int)) (zR t)).toNat,by show zQ (max 1 (t.cols.length:Int)) (zR t)=_;omega,by omega,fun k hk=>⟨?_,hg,?_⟩⟩
  ·have hk':k < (zR t).length:=hk;obtain ⟨r,j,hr,hj,e⟩:=(z6N hl hk').ex;have hst:=z26 hl (z0Y (d:=dG) hk');have hm:=z3j (m:=max 1 (t.cols.length:Int)) (z0Y (d:=dG) hk');have e1:((zR t).getD k dG).row=r:=(by rw [e];rfl);have e2:((zR t).getD k dG).ins=j:=(by rw [e];rfl);unfold z0h at hst;show ∃ rn jn cn mn:Nat,((zR t).getD k dG).row=rn∧((zR t).getD k dG).ins=jn∧((zR t).getD k dG).col=cn∧((zR t).getD k dG).cols=mn∧_;refine ⟨r,j,((zR t).getD k dG).col.toNat,((zR t).getD k dG).cols.toNat,e1,e2,by omega,by omega,hr,hj,by omega,by omega,by omega⟩
  ·have hk':k < (zR t).length:=hk;have hst:=z26 hl (z0Y (d:=dG) hk');unfold z0h at hst;show 0≤((zR t).getD k dG).rows∧((zR t).getD k dG).rows≤8;omega
end
section
open Go.RowKit Go.BigFrame
def z0w (t:T) (x:GC):C:=(t.rows.getD x.row.toNat dR).cells.getD x.ins.toNat dC
theorem z5a (ac ar:Option Addr) (cc cr:Nat) (t:T) (x:GC) {C:Nat} (hx:Cel t C x) (w:World) {z:Nat} (hr:zD w z (.slice ar t.rows.length cr) t.rows) :
  Calls Try.prog 99 #[.agg #[.slice ac t.cols.length cc,.int .i64 t.head,.int .i64 t.foot,.slice ar t.rows.length cr,.int .i64 t.gap],.agg #[.int .i64 x.row,.int .i64 x.col,.int .i64 x.rows,.int .i64 x.cols,.int .i64 x.ins]] w fun e w'=>e=.returned (.agg #[.string (z0w t x).s,.int .i64 (z0w t x).c,.int .i64 (z0w t x).r,.int .i64 (z0w t x).a1,.int .i64 (z0w t x).b1,.int .i64 (z0w t x).a2,.int .i64 (z0w t x).b2,.int .i64 (z0w t x).a3,.int .i64 (z0w t x).b3,.int .i64 (z0w t x).a4,.int .i64 (z0w t x).b4])∧(z0w t x).s.size≤maxLen∧Below w.heap.size w w':=by
 obtain ⟨rn,jn,cn,mn,e1,e2,e3,e4,h1,h2,h3,h4,h5⟩:=hx.ex;have HTx:Hid (z0w t x=(t.rows.getD rn dR).cells.getD jn dC):=(by rw [Hid,z0w,e1,e2,Int.toNat_natCast,Int.toNat_natCast]);have hmx:Try.prog.follows .mixedOrders=true:=(by kernel_rfl);have K1:=zb (Below.refl w.heap.size w) (.cells #[.slice ac t.cols.length cc,.int .i64 t.head,.int .i64 t.foot,.slice ar t.rows.length cr,.int .i64 t.gap] 26);have X1:=zf w (.cells #[.slice ac t.cols.length cc,.int .i64 t.head,.int .i64 t.foot,.slice ar t.rows.length cr,.int .i64 t.gap] 26);have hs1:(w.alloc (.cells #[.slice ac t.cols.length cc,.int .i64 t.head,.int .i64 t.foot,.slice ar t.rows.length cr,.int .i64 t.gap] 26)).heap.size=w.heap.size+1:=(by simp);rw [e1,e2];clear e1 e2 e3 e4;go_enter Try.func99,Try.ntmps99;go_upto_region 1 with fail
 have K2:=zb K1 (.cells #[.int .i64 (rn:Int),.int .i64 x.col,.int .i64 x.rows,.int .i64 x.cols,.int .i64 (jn:Int)] 115);have X2:=zf (w.alloc (.cells #[.slice ac t.cols.length cc,.int .i64 t.head,.int .i64 t.foot,.slice ar t.rows.length cr,.int .i64 t.gap] 26)) (.cells #[.int .i64 (rn:Int),.int .i64 x.col,.int .i64 x.rows,.int .i64 x.cols,.int .i64 (jn:Int)] 115);have X1':=(Below.heap_alloc (w.alloc (.cells #[.slice ac t.cols.length cc,.int .i64 t.head,.int .i64 t.foot,.slice ar t.rows.length cr,.int .i64 t.gap] 26)) (.cells #[.int .i64 (rn:Int),.int .i64 x.col,.int .i64 x.rows,.int .i64 x.cols,.int .i64 (jn:Int)] 115) w.heap.size (by omega)).trans X1;rw [hs1] at X2;have hs2:((w.alloc (.cells #[.slice ac t.cols.length cc,.int .i64 t.head,.int .i64 t.foot,.slice ar t.rows.length cr,.int .i64 t.gap] 26)).alloc (.cells #[.int .i64 (rn:Int),.int .i64 x.col,.int .i64 x.rows,.int .i64 x.cols,.int .i64 (jn:Int)] 115)).heap.size=w.heap.size+2:=(by simp);generalize (w.alloc (.cells #[.slice ac t.cols.length cc,.int .i64 t.head,.int .i64 t.foot,.slice ar t.rows.length cr,.int .i64 t.gap] 26)).alloc (.cells #[.int .i64 (rn:Int),.int .i64 x.col,.int .i64 x.rows,.int .i64 x.cols,.int .i64 (jn:Int)] 115)=W2 at K2 X2 X1' hs2 ⊢;have K3:=zb K2 (.cells #[.string ⟨#[]⟩,.int .i64 0,.int .i64 0,.int .i64 0,.int .i64 0,.int .i64 0,.int .i64 0,.int .i64 0,.int .i64 0,.int .i64 0,.int .i64 0] 35);have X3:=zf W2 (.cells #[.string ⟨#[]⟩,.int .i64 0,.int .i64 0,.int .i64 0,.int .i64 0,.int .i64 0,.int .i64 0,.int .i64 0,.int .i64 0,.int .i64 0,.int .i64 0] 35);have X1'':=(Below.heap_alloc W2 (.cells #[.string ⟨#[]⟩,.int .i64 0,.int .i64 0,.int .i64 0,.int .i64 0,.int .i64 0,.int .i64 0,.int .i64 0,.int .i64 0,.int .i64 0,.int .i64 0] 35) w.heap.size (by omega)).trans X1';have X2':=(Below.heap_alloc W2 (.cells #[.string ⟨#[]⟩,.int .i64 0,.int .i64 0,.int .i64 0,.int .i64 0,.int .i64 0,.int .i64 0,.int .i64 0,.int .i64 0,.int .i64 0,.int .i64 0] 35) (w.heap.size+1) (by omega)).trans X2;rw [show W2.heap.size=w.heap.size+1+1 by omega] at X3;generalize W2.alloc (.cells #[.string ⟨#[]⟩,.int .i64 0,.int .i64 0,.int .i64 0,.int .i64 0,.int .i64 0,.int .i64 0,.int .i64 0,.int .i64 0,.int .i64 0,.int .i64 0] 35)=W at K3 X3 X1'' X2' ⊢;clear K1 X1 hs1 K2 X2 X1' hs2;obtain ⟨rb,roff,rcap,re,rc1,rc2,rbl,u,hu0,_,hu⟩:=At.get (hr.kept K3) h1;simp only [Value.slice.injEq,true_and] at re;obtain ⟨rfl,rfl⟩:=re;obtain ⟨qb,qoff,qcap,qe,qc1,qc2,qbl,hv,hsl⟩:=At.get hu h2;subst qe;obtain ⟨v0,v1,v2,v3,v4,v5,v6,v7,v8,v9,v10⟩:=hv;have l1:w.heap.size < W.heap.size:=(bL X1'');have l2:w.heap.size+1 < W.heap.size:=(bL X2');have hne:=z1X W;have m0:=zj (a:=⟨w.heap.size,3,none⟩) l1 (zc (p:=3) X1'');have m1:=zj (a:=⟨w.heap.size+1,0,none⟩) l2 (zc (p:=0) X2');have m2:=zj (a:=⟨w.heap.size+1,4,none⟩) l2 (zc (p:=4) X2');have m3:=zj rbl hu0;have n0:=zj qbl v0;have n1:=zj qbl v1;have n2:=zj qbl v2;have n3:=zj qbl v3;have n4:=zj qbl v4;have n5:=zj qbl v5;have n6:=zj qbl v6;have n7:=zj qbl v7;have n8:=zj qbl v8;have n9:=zj qbl v9;have n10:=zj qbl v10;have HSZ:Hid ((z0w t x).s.size≤maxLen):=(by rw [Hid,HTx.out];exact hsl);have HK:=Hd K3;have HX3:=Hd X3;unfold maxLen at rc2 qc2;generalize (t.rows.getD rn dR).cells.getD jn dC=y at *;generalize (t.rows.getD rn dR).cells.length=rl at h2 m3 qc1;clear hu hu0 hr h3 h4 h5 hx K3 X3 X1'' X2' v0 v1 v2 v3 v4 v5 v6 v7 v8 v9 v10 hsl;refine z2k 11 hmx (by rfl) (by rfl) (by kernel_rfl) (by kernel_rfl) ?_;simp only [List.take_succ_cons,List.take_zero];repeat (go_big_quiet_step (fail))
 refine wpQuiet_nil ?_;intro W5 hw';obtain ⟨⟨Wx,hW5⟩,hw''⟩:=hw';subst hw'';have l3:w.heap.size+1+1 < W.heap.size:=(bL HX3.out);have X5:=(hW5.block _ l3).trans HX3.out;obtain ⟨⟨c0,c1,c2,c3,c4,c5,c6,c7,c8,c9,c10⟩,f0,f1,f2,f3,f4,f5,f6,f7,f8,f9,f10⟩:=zK X5;have HK5:=Hd (ze HK.out hW5);clear m0 m1 m2 m3 n0 n1 n2 n3 n4 n5 n6 n7 n8 n9 n10 hne hW5 X5;rw [if_pos (by rfl)];go_simp;go_wp2;exact bodyPost_ret (v:=.agg #[.string y.s,.int .i64 y.c,.int .i64 y.r,.int .i64 y.a1,.int .i64 y.b1,.int .i64 y.a2,.int .i64 y.b2,.int .i64 y.a3,.int .i64 y.b3,.int .i64 y.a4,.int .i64 y.b4]) (by simp [results,Try.results99,go_sem,c0,c1,c2,c3,c4,c5,c6,c7,c8,c9,c10]) rfl ⟨by rw [HTx.out],HSZ.out,HK5.out.trans ((z0x W5 (w.heap.size+1+1) (.string y.s) (.int .i64 y.c) (.int .i64 y.r) (.int .i64 y.a1) (.int .i64 y.b1) (.int .i64 y.a2) (.int .i64 y.b2) (.int .i64 y.a3) (.int .i64 y.b3) (.int .i64 y.a4) (.int .i64 y.b4)).below HK5.out.size (by omega))⟩
end
section
open Go.RowKit
def atN (t:T) (r c:Int):Int:=z0O (z09 r c) (gOf t).cells
def zq (t:T) (i:Int):C:=if i < 0 then dC else z0w t ((gOf t).cells.getD i.toNat dG)
def z0a (x y:Fr):Fr:=if x.c=y.c then dF else if x.c < 0 then y else if y.c < 0 then x else if btF y x=true then y else x
def zl (t:T) (r c:Int):Fr:=z0a ⟨(zq t (atN t (r - 1) c)).a3,(zq t (atN t (r - 1) c)).b3,atN t (r - 1) c⟩ ⟨(zq t (atN t r c)).a1,(zq t (atN t r c)).b1,atN t r c⟩
def zm (t:T) (r c:Int):Fr:=z0a ⟨(zq t (atN t r (c - 1))).a2,(zq t (atN t r (c - 1))).b2,atN t r (c - 1)⟩ ⟨(zq t (atN t r c)).a4,(zq t (atN t r c)).b4,atN t r c⟩
theorem z1Q:zJ []=dF:=rfl
theorem z1I (x:Fr):zJ [x]=x:=rfl
theorem z31 (x y:Fr):zJ [x,y]=if btF y x=true then y else x:=rfl
def z0j (x:Fr):List Value:=[.int .i64 x.s,.int .i64 x.w,.int .i64 x.c]
theorem z3n:(Try.prog.info? 62).map (fun i=>(i.zero,i.size,i.bytes))=some (some (Value.agg #[.int .i64 0,.int .i64 0,.int .i64 0]),3,24):=by kernel_rfl
theorem z14 {w:World} {base:Nat} {v:Value} {l:List Fr} (h:w.ownsRow base 62 3 v l.length (l.flatMap z0j)):z0V w base v l:=by
 rcases h.2 with ⟨rfl,hn⟩ | ⟨g,cap,cur,rfl,hg,hc,h3,h4,_⟩
 ·exact ⟨none,0,by rw [hn],by omega,by unfold maxLen;omega,fun i hi=>by omega⟩
 ·refine ⟨_,cap,rfl,h3,h4,fun i hi=>⟨g,0,rfl,(bL hc),hg,?_⟩⟩
  have hx:∀ j,j < 3→w.cell? ⟨g,i * 3+j,none⟩=(z0j l[i])[j]?:=fun j hj=>by
   have e:=z16 z0j 3 (fun _=>rfl) l i hi j hj;rw [z1E h (u:=(z0j l[i])[j]'(by show j < 3;exact hj)) (by rw [e];simp)];simp
  have e:l.getD i dF=l[i]:=(by simp [List.getD,hi]);dsimp only;rw [e,Nat.zero_add];exact ⟨hx 0 (by omega),hx 1 (by omega),hx 2 (by omega)⟩
def z1U (f:Int→Int→Fr) (r c:Nat):List Fr:=(List.range c).map (fun k:Nat=>f r k)
def zT (f:Int→Int→Fr) (C r:Nat):List Fr:=(List.range r).flatMap (fun q:Nat=>z1U f q C)
theorem z3P (f:Int→Int→Fr) (r c:Nat):(z1U f r c).length=c:=by simp [z1U]
theorem z5b (f:Int→Int→Fr) (r c:Nat):z1U f r (c+1)=z1U f r c ++ [f r c]:=by simp [z1U,List.range_succ]
theorem z3o (f:Int→Int→Fr) (C r:Nat):zT f C (r+1)=zT f C r ++ z1U f r C:=by simp [zT,List.range_succ]
theorem z1w (f:Int→Int→Fr) (C:Nat):∀ r,(zT f C r).length=r * C
 | 0=>by simp [zT]
 | r+1=>by rw [z3o,List.length_append,z1w f C r,z3P,Nat.succ_mul]
def upF (f:Int→Int→Fr) (C r c:Nat):List Fr:=zT f C r ++ z1U f r c
theorem z2t (f:Int→Int→Fr) (C r:Nat):upF f C r 0=zT f C r:=by simp [upF,z1U]
theorem z2u (f:Int→Int→Fr) (C r:Nat):upF f C r C=zT f C (r+1):=(z3o f C r).symm
theorem z2v (f:Int→Int→Fr) (C r c:Nat):upF f C r (c+1)=upF f C r c ++ [f r c]:=by rw [upF,z5b,← List.append_assoc];rfl
theorem z2M (f:Int→Int→Fr) (C r c:Nat):(upF f C r c).length=r * C+c:=by rw [upF,List.length_append,z1w,z3P]
def z0y (t:T):List Fr:=zT (zl t) (gOf t).cols.toNat ((gOf t).rows.toNat+1) ++ zT (zm t) ((gOf t).cols.toNat+1) (gOf t).rows.toNat
def shB (x:Fr):Bool:=decide (1≤x.s) && decide (x.s≤3)
def z0I (l:List Fr) (k:Nat):Nat:=((l.take k).filter shB).length
theorem z3Q (l:List Fr):z0I l 0=0:=by simp [z0I]
theorem z3R {l:List Fr} {k:Nat} (h:k < l.length):z0I l (k+1)=z0I l k+(if shB (l.getD k dF)=true then 1 else 0):=by
 rw [z0I,List.take_succ_eq_append_getElem h,List.filter_append,List.length_append,z0I];have e:l.getD k dF=l[k]:=(by simp [List.getD,h]);rw [e]
 congr 1
 by_cases hs:shB l[k]=true
 ·rw [List.filter_cons_of_pos hs,if_pos hs];rfl
 ·rw [List.filter_cons_of_neg hs,if_neg hs];rfl
theorem z4T (l:List Fr) (k:Nat):z0I l k≤k:=by
 unfold z0I;exact Nat.le_trans (List.length_filter_le _ _) (by rw [List.length_take];omega)
def StF (x:Fr):Prop:=0≤x.s∧x.s≤4
def StC (x:C):Prop:=(0≤x.a1∧x.a1≤4)∧(0≤x.a2∧x.a2≤4)∧(0≤x.a3∧x.a3≤4)∧(0≤x.a4∧x.a4≤4)
def z7G (w:World) (b o:Nat) (x:Fr):Prop:=w.cell? ⟨b,o,none⟩=some (.int .i64 x.s)∧w.cell? ⟨b,o+1,none⟩=some (.int .i64 x.w)∧w.cell? ⟨b,o+2,none⟩=some (.int .i64 x.c)
def z0f (w:World) (base:Nat) (v:Value) (l:List Fr):Prop:=w.ownsRow base 62 3 v l.length (l.flatMap z0j)
theorem z0f.at {w:World} {base:Nat} {v:Value} {l:List Fr} (h:z0f w base v l):z0V w base v l:=z14 h
theorem z27 {w:World} {base:Nat} {v:Value} {l:List Fr} {q:Fr} (h:w.ownsRow base 62 3 v (l.length+1) (l.flatMap z0j ++ [.int .i64 q.s,.int .i64 q.w,.int .i64 q.c])):z0f w base v (l ++ [q]):=by
 unfold z0f;rw [List.length_append,List.flatMap_append]
 simpa [z0j] using h
theorem z32 {t:T} (hD:z0o t):∃ R C:Nat,(gOf t).rows=R∧(gOf t).cols=C∧R≤8∧C≤88:=by
 obtain ⟨_,C,hgc,hC,_⟩:=z4k hD
 cases h:zI t with
 | false=>exact ⟨0,C,by rw [z4j h];rfl,hgc,by omega,hC⟩
 | true=>exact ⟨t.rows.length,C,by rw [z4i h],hgc,(z2C h hD).rows,hC⟩
theorem z4n {t:T} (hD:z0o t):(z0y t).length≤5000:=by
 obtain ⟨R,C,hgr,hgc,hR8,hC88⟩:=z32 hD;rw [z0y,hgr,hgc,Int.toNat_natCast,Int.toNat_natCast,List.length_append,z1w,z1w];have h1:=Nat.mul_le_mul (show R+1≤9 by omega) (show C≤88 by omega);have h2:=Nat.mul_le_mul (show R≤8 by omega) (show C+1≤89 by omega);omega
def plC (x:C):C:={ x with c:=1,r:=1 }
def plR (r:R):R:={ r with cells:=r.cells.map plC }
def plT (t:T):T:={ t with cols:=[],rows:=t.rows.map plR }
structure PlG (r i:Nat) (gs:List GC):Prop where
 each:∀ a ∈ gs,a.rows=1∧a.cols=1∧a.col=a.ins∧0≤a.ins∧(a.row < r∨a.row=r∧a.ins < i)
 all:∀ j:Nat,j < i→∃ a ∈ gs,a.row=r∧a.ins=j
def z7y (r n:Nat):List GC:=(List.range n).map fun j:Nat=>⟨r,j,1,1,j⟩
def z7w (gs:List GC) (k:Nat):Int:=(gs.take k).foldl (fun m a=>max m (a.ins+1)) 1
def bnC (b:Int) (x:C):C:=⟨x.s,x.c,x.r,b,0,b,0,b,0,b,0⟩
def bnR (b:Int) (r:R):R:={ r with cells:=r.cells.map (bnC b) }
def bnT (b:Int) (t:T):T:={ t with rows:=t.rows.map (bnR b) }
theorem z4U (b:Int) (t:T) (i:Nat):(bnT b t).rows.getD i dR=bnR b (t.rows.getD i dR):=by
 show (t.rows.map (bnR b)).getD i dR=bnR b (t.rows.getD i dR);by_cases h:i < t.rows.length
 ·simp [List.getD,h]
 ·simp [List.getD,h,bnR,dR]
theorem z5V {b:Int} {t:T} (h:z0o t):z0o (bnT b t):=by
 refine ⟨by show (t.rows.map (bnR b)).length≤9;rw [List.length_map];exact h.rows,h.cols,h.head,h.foot,h.gap,fun r hr x hx=>?_,?_⟩
 ·obtain ⟨r0,hr0,rfl⟩:=List.mem_map.1 hr;obtain ⟨x0,hx0,rfl⟩:=List.mem_map.1 hx;exact h.cells r0 hr0 x0 hx0
 ·obtain ⟨k,hk⟩:=h.few;refine ⟨k,fun i=>?_⟩;rw [z4U];show ((t.rows.getD i dR).cells.map (bnC b)).length≤_;rw [List.length_map];exact hk i
def NoF (x:Fr):Prop:=x.s=0∨x.s=4
theorem z4V {x y:Fr} (hx:NoF x) (hy:NoF y):NoF (z0a x y):=by
 unfold z0a
 split
 ·exact .inl rfl
 ·split
  ·exact hy
  ·split
   ·exact hx
   ·split
    ·exact hy
    ·exact hx
def NoC (x:C):Prop:=(x.a1=0∨x.a1=4)∧(x.a2=0∨x.a2=4)∧(x.a3=0∨x.a3=4)∧(x.a4=0∨x.a4=4)
theorem z6A:NoC dC:=⟨.inl rfl,.inl rfl,.inl rfl,.inl rfl⟩
theorem z5c {b:Int} (hb:b=0∨b=4) (t:T) (i:Int):NoC (zq (bnT b t) i):=by
 unfold zq z0w
 split
 ·exact z6A
 ·rw [z4U];show NoC (((t.rows.getD _ dR).cells.map (bnC b)).getD _ dC);generalize (t.rows.getD _ dR).cells=cs;generalize Int.toNat _=j;rw [List.getD_eq_getElem?_getD,List.getElem?_map]
  cases cs[j]? with
  | none=>exact z6A
  | some x=>exact ⟨hb,hb,hb,hb⟩
theorem z6O {b:Int} (hb:b=0∨b=4) (t:T):((z0I (z0y (bnT b t)) (z0y (bnT b t)).length:Nat):Int)=0:=by
 have hall:∀ x ∈ z0y (bnT b t),shB x=false:=fun x hx=>by
  have hn:NoF x:=by
   unfold z0y at hx
   have h:∀ f:Int→Int→Fr,(∀ r c,NoF (f r c))→∀ C R,∀ x ∈ zT f C R,NoF x:=fun f hf C R x hx=>by
    obtain ⟨q,_,h2⟩:=List.mem_flatMap.1 hx;obtain ⟨k,_,rfl⟩:=List.mem_map.1 h2;exact hf _ _
   rcases List.mem_append.1 hx with h1 | h1
   ·refine h (zl (bnT b t)) (fun r c=>?_) _ _ x h1;unfold zl;exact z4V (z5c hb _ _).2.2.1 (z5c hb _ _).1
   ·refine h (zm (bnT b t)) (fun r c=>?_) _ _ x h1;unfold zm;exact z4V (z5c hb _ _).2.1 (z5c hb _ _).2.2.2
  rcases hn with e | e <;> simp [shB,e]
 have:z0I (z0y (bnT b t)) (z0y (bnT b t)).length=0:=by
  unfold z0I;rw [List.take_length,List.length_eq_zero_iff,List.filter_eq_nil_iff];intro x hx;rw [hall x hx];simp
 rw [this];rfl
def z7m:C:=⟨⟨#[]⟩,1,1,0,0,0,0,0,0,2,1⟩
def z22:T:={ cols:=[],head:=0,foot:=0,rows:=[⟨[z7m],false⟩],gap:=0 }
theorem z5d:z0o z22:=by
 refine ⟨by decide,by decide,by decide,by decide,by decide,fun r hr x hx=>?_,⟨0,fun i=>?_⟩⟩
 ·simp only [z22,List.mem_singleton] at hr;subst hr;simp only [List.mem_singleton] at hx;subst hx;exact ⟨by decide,.inl (by decide)⟩
 ·cases i with
  | zero=>decide
  | succ i=>simp [z22,dR,List.getD]
theorem z5W:((z0I (z0y z22) (z0y z22).length:Nat):Int)=1:=by kernel_rfl
theorem z3p (t:T) (r c:Int):atN t r c=-1∨∃ k:Nat,atN t r c=k∧k < (gOf t).cells.length:=by
 unfold atN z0O
 split
 ·rename_i k h
  exact .inr ⟨k,rfl,(List.findIdx?_eq_some_iff_getElem.1 h).1⟩
 ·exact .inl rfl
theorem z0m {w w':World} {base:Nat} {e:TypeId} {sz:Nat} {v:Value} {m:Nat} {xs:List Value} (h:w.ownsRow base e sz v m xs) (k:Below w.heap.size w w'):w'.ownsRow base e sz v m xs:=by
 refine ⟨h.1,?_⟩
 rcases h.2 with h | ⟨g,cap,cur,hv,hb,hg,r⟩
 ·exact .inl h
 ·exact .inr ⟨g,cap,cur,hv,hb,(k.block g (bL hg)).trans hg,r⟩
end
end Go.Proofs.Ytggmjiddadjilam
