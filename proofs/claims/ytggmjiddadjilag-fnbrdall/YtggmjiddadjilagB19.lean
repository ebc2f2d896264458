/-
  PROVED HERE: where each cell of a drawn table's grid stands: in its row, behind the one ahead of it, at the first column at which it is free; the grid is ok; it has as many cells as the table. Also: 8 more texts of the same proof.
-/
import Derived.Test.YtggmjiddadjilagB15
import Derived.Test.YtggmjiddadjilagB13
set_option maxRecDepth 1000000
set_option maxHeartbeats 40000000
namespace Go.Proofs.Ytggmjiddadjilag
section
theorem z21 {α:Type} {l:List α} {x d:α} {k:Nat} (h:k < l.length):(l ++ [x]).getD k d=l.getD k d:=by
 simp [List.getD,List.getElem?_append_left h]
theorem z1g {α:Type} {l:List α} {x d:α}:(l ++ [x]).getD l.length d=x:=by simp [List.getD]
theorem z2E {α:Type} {l:List α} {x:α} {k:Nat} (h:k≤l.length):(l ++ [x]).take k=l.take k:=by
 rw [List.take_append_of_le_length h]
theorem z4E (gs:List GC) (r i:Nat) (e:Int) (x:C) (c:Int):z05 (z0G gs r i e x) c=z05 (z1n r i e x) c:=by simp only [z0G,z05]
theorem z5L (gs:List GC) (r i:Nat) (e:Int) (x:C):(z0G gs r i e x).col=(z1L gs (z1n r i e x):Int):=by simp only [z0G,z05]
structure z4l (t:T) (gs:List GC) (k:Nat):Prop where
 ex:∃ r j:Nat,r < t.rows.length∧j < (t.rows.getD r dR).cells.length∧gs.getD k dG=z0G (gs.take k) r j (zt t r) ((t.rows.getD r dR).cells.getD j dC)
 free:z0l (gs.take k) (gs.getD k dG)=true
 first:∀ c:Nat,(c:Int) < (gs.getD k dG).col→z0l (gs.take k) (z05 (gs.getD k dG) c)=false
 after:0 < k→(gs.getD (k - 1) dG).row < (gs.getD k dG).row∨(gs.getD (k - 1) dG).row=(gs.getD k dG).row∧(gs.getD (k - 1) dG).ins+1=(gs.getD k dG).ins
theorem z4l.snoc {t:T} {gs:List GC} {k:Nat} (x:GC) (hk:k < gs.length) (h:z4l t gs k):z4l t (gs ++ [x]) k:=by
 have e1:(gs ++ [x]).getD k dG=gs.getD k dG:=z21 hk;have e2:(gs ++ [x]).take k=gs.take k:=z2E (by omega);have e3:(gs ++ [x]).getD (k - 1) dG=gs.getD (k - 1) dG:=z21 (by omega);refine ⟨?_,?_,?_,?_⟩
 ·rw [e1,e2];exact h.ex
 ·rw [e1,e2];exact h.free
 ·rw [e1,e2];exact h.first
 ·rw [e1,e3];exact h.after
structure z14 (t:T) (gs:List GC) (r i:Nat):Prop where
 part:z1b t gs r i
 laid:∀ k,k < gs.length→z4l t gs k
 last:0 < gs.length→(gs.getD (gs.length - 1) dG).row < r∨(gs.getD (gs.length - 1) dG).row=r∧(gs.getD (gs.length - 1) dG).ins+1=i
theorem z14.next {t:T} {gs:List GC} {r i:Nat} (h:z14 t gs r i) (hl:Low t) (hr:r < t.rows.length) (hi:i < (t.rows.getD r dR).cells.length) :
  z14 t (gs ++ [z0G gs r i (zt t r) ((t.rows.getD r dR).cells.getD i dC)]) r (i+1):=by
 obtain ⟨⟨h1,h2,h3,h4⟩,hp⟩:=h.part.next hl hr hi;refine ⟨hp,?_,?_⟩
 ·intro k hk;rw [List.length_append,List.length_singleton] at hk;by_cases hk2:k < gs.length
  ·exact (h.laid k hk2).snoc _ hk2
  ·obtain rfl:k=gs.length:=by omega
   have e2:∀ x:GC,(gs ++ [x]).take gs.length=gs:=fun x=>by rw [z2E (Nat.le_refl _),List.take_length]
   refine ⟨?_,?_,?_,?_⟩
   ·rw [z1g,e2];exact ⟨r,i,hr,hi,rfl⟩
   ·rw [z1g,e2];exact h2
   ·rw [z1g,e2];intro c hc;rw [z5L] at hc;rw [z4E];exact h3 c (Int.ofNat_lt.1 hc)
   ·intro h0;rw [z1g,z21 (by omega)];exact h.last h0
 ·intro _;rw [List.length_append,List.length_singleton,Nat.add_sub_cancel,z1g];refine .inr ⟨rfl,?_⟩;show (i:Int)+1=((i+1:Nat):Int);omega
theorem z14.zero (t:T):z14 t [] 0 0:=⟨z1b.zero t,fun _ hk=>absurd hk (Nat.not_lt_zero _),fun h=>absurd h (Nat.lt_irrefl _)⟩
theorem z14.rowEnd {t:T} {gs:List GC} {r:Nat} (h:z14 t gs r (t.rows.getD r dR).cells.length):z14 t gs (r+1) 0:=by
 refine ⟨h.part.rowEnd,h.laid,fun h0=>.inl ?_⟩
 rcases h.last h0 with h1 | ⟨h1,_⟩ <;> omega
theorem z4m {t:T} (hl:Low t) {r:Nat} (hr:r < t.rows.length) (h:z14 t (zu t r) r 0):∀ i,i≤(t.rows.getD r dR).cells.length→z14 t (z0p (zt t r) r (t.rows.getD r dR).cells (zu t r) i) r i
 | 0,_=>h
 | i+1,hi=>z14.next (z4m hl hr h i (by omega)) hl hr (by omega)
theorem z3Q {t:T} (hl:Low t):∀ r,r≤t.rows.length→z14 t (zu t r) r 0
 | 0,_=>z14.zero t
 | r+1,hr=>(z4m hl (by omega) (z3Q hl r (by omega)) _ (Nat.le_refl _)).rowEnd
theorem z6A {t:T} (hl:Low t) {k:Nat} (hk:k < (zR t).length):z4l t (zR t) k:=(z3Q hl _ (Nat.le_refl _)).laid k hk
theorem z24 {t:T} (hl:Low t) {a:GC} (ha:a ∈ zR t):z0i t.rows.length a:=((z22 hl _ (Nat.le_refl _)).stands a ha).1
theorem z2c (m:Int) (a:GC) (gs:List GC):zQ m (a :: gs)=zQ (max m (a.col+a.cols)) gs:=rfl
theorem z2F:∀ (gs:List GC) (m:Int),m≤zQ m gs
 | [],m=>Int.le_refl _
 | a :: gs,m=>by rw [z2c];exact Int.le_trans (Int.le_max_left _ _) (z2F gs _)
theorem z3m:∀ {gs:List GC} {m:Int} {a:GC},a ∈ gs→a.col+a.cols≤zQ m gs
 | b :: gs,m,a,h=>by
  rw [z2c]
  rcases List.mem_cons.1 h with rfl | h
  ·exact Int.le_trans (Int.le_max_right _ _) (z2F gs _)
  ·exact z3m h
theorem z3R:∀ {gs:List GC} {m B:Int},m≤B→(∀ a ∈ gs,a.col+a.cols≤B)→zQ m gs≤B
 | [],m,B,h,_=>h
 | a :: gs,m,B,h,h2=>by
  rw [z2c];exact z3R (Int.max_le.2 ⟨h,h2 a (by simp)⟩) (fun b hb=>h2 b (by simp [hb]))
theorem z4F {t:T} (hl:Low t) (hc:t.cols.length≤8):1≤zQ (max 1 (t.cols.length:Int)) (zR t)∧zQ (max 1 (t.cols.length:Int)) (zR t)≤88∧(t.cols.length:Int)≤zQ (max 1 (t.cols.length:Int)) (zR t):=by
 have h1:=z2F (zR t) (max 1 (t.cols.length:Int));have h2:zQ (max 1 (t.cols.length:Int)) (zR t)≤88:=z3R (by omega) (fun a ha=>by have:=z24 hl ha;unfold z0i at this;omega);omega
end
section
open Go.RowKit
def TA (w:World) (z:Nat) (ac ar:Option Addr) (cc cr:Nat) (t:T):Prop:=zV w z (.slice ac t.cols.length cc) t.cols∧zD w z (.slice ar t.rows.length cr) t.rows
theorem TA.kept {w w':World} {z:Nat} {ac ar:Option Addr} {cc cr:Nat} {t:T} (h:TA w z ac ar cc cr t) (hb:Below w.heap.size w w'):TA w' z ac ar cc cr t:=⟨h.1.kept hb,h.2.kept hb⟩
def St (w:World) (tb:Nat) (ac ar:Option Addr) (cc cr:Nat) (t:T) (W:World):Prop:=Below w.heap.size w W∧TA W w.heap.size ac ar cc cr t∧W.heap[tb]?=some (.cells #[.slice ac t.cols.length cc,.int .i64 t.head,.int .i64 t.foot,.slice ar t.rows.length cr,.int .i64 t.gap] 49)
theorem St.kept {w W W':World} {tb:Nat} {ac ar:Option Addr} {cc cr:Nat} {t:T} (h:St w tb ac ar cc cr t W) (hb:Below W.heap.size W W'):St w tb ac ar cc cr t W' :=
 ⟨h.1.trans (hb.mono h.1.size),h.2.1.kept hb,(hb.block tb (bL h.2.2)).trans h.2.2⟩
theorem St.at {w W:World} {tb:Nat} {ac ar:Option Addr} {cc cr:Nat} {t:T} (h:St w tb ac ar cc cr t W):(W.cell? ⟨tb,0,none⟩=some (.slice ac t.cols.length cc)∧W.cell? ⟨tb,1,none⟩=some (.int .i64 t.head)∧W.cell? ⟨tb,2,none⟩=some (.int .i64 t.foot)∧W.cell? ⟨tb,3,none⟩=some (.slice ar t.rows.length cr)∧W.cell? ⟨tb,4,none⟩=some (.int .i64 t.gap)):=(z02 h.2.2).1
theorem z4T {t:T} (hD:z0w t):∀ x ∈ (gOf t).cells,GOk x:=by
 unfold gOf
 split
 ·rename_i h
  have hl:=z2D h hD;exact fun x hx=>(z24 hl hx).gok hl.rows
 ·intro x hx
  cases hx
def SGr (w:World) (tb gb:Nat) (ac ar:Option Addr) (cc cr:Nat) (t:T) (ag:Option Addr) (cg:Nat) (W:World):Prop :=
 St w tb ac ar cc cr t W∧z01 W w.heap.size (.slice ag (gOf t).cells.length cg) (gOf t).cells∧W.heap[gb]?=some (.cells #[.int .i64 (gOf t).rows,.int .i64 (gOf t).cols,.slice ag (gOf t).cells.length cg] 56)
theorem SGr.kept {w W W':World} {tb gb:Nat} {ac ar ag:Option Addr} {cc cr cg:Nat} {t:T} (h:SGr w tb gb ac ar cc cr t ag cg W) (hb:Below W.heap.size W W'):SGr w tb gb ac ar cc cr t ag cg W' :=
 ⟨h.1.kept hb,h.2.1.kept hb,(hb.block gb (bL h.2.2)).trans h.2.2⟩
theorem SGr.at {w W:World} {tb gb:Nat} {ac ar ag:Option Addr} {cc cr cg:Nat} {t:T} (h:SGr w tb gb ac ar cc cr t ag cg W):W.cell? ⟨gb,0,none⟩=some (.int .i64 (gOf t).rows)∧W.cell? ⟨gb,1,none⟩=some (.int .i64 (gOf t).cols)∧W.cell? ⟨gb,2,none⟩=some (.slice ag (gOf t).cells.length cg) :=
 ⟨ze h.2.2,ze h.2.2,ze h.2.2⟩
theorem z2G {w:World} {base:Nat} {v:Value} {gs:List GC} (h:z20 w base v gs):∃ a cap,v=.slice a gs.length cap:=by
 rcases h.2 with ⟨rfl,hn⟩ | ⟨g,cap,cur,rfl,_⟩
 ·exact ⟨none,0,by rw [hn]⟩
 ·exact ⟨_,cap,rfl⟩
theorem z4n {t:T} (h:zA t=true):gOf t=⟨t.rows.length,zQ (max 1 (t.cols.length:Int)) (zR t),zR t⟩:=by unfold gOf;rw [if_pos h]
theorem z3n {t:T} (h:zA t=false):gOf t=⟨0,0,[]⟩:=by unfold gOf;rw [if_neg (by rw [h];simp)]
def SCe (w:World) (tb gb cb:Nat) (ac ar:Option Addr) (cc cr:Nat) (t:T) (ag:Option Addr) (cg:Nat) (x:GC) (W:World):Prop :=
 SGr w tb gb ac ar cc cr t ag cg W∧W.heap[cb]?=some (.cells #[.int .i64 x.row,.int .i64 x.col,.int .i64 x.rows,.int .i64 x.cols,.int .i64 x.ins] 27)
theorem SCe.kept {w W W':World} {tb gb cb:Nat} {ac ar ag:Option Addr} {cc cr cg:Nat} {t:T} {x:GC} (h:SCe w tb gb cb ac ar cc cr t ag cg x W) (hb:Below W.heap.size W W'):SCe w tb gb cb ac ar cc cr t ag cg x W' :=
 ⟨h.1.kept hb,(hb.block cb (bL h.2)).trans h.2⟩
theorem SCe.at {w W:World} {tb gb cb:Nat} {ac ar ag:Option Addr} {cc cr cg:Nat} {t:T} {x:GC} (h:SCe w tb gb cb ac ar cc cr t ag cg x W):W.cell? ⟨cb,0,none⟩=some (.int .i64 x.row)∧W.cell? ⟨cb,1,none⟩=some (.int .i64 x.col)∧W.cell? ⟨cb,2,none⟩=some (.int .i64 x.rows)∧W.cell? ⟨cb,3,none⟩=some (.int .i64 x.cols)∧W.cell? ⟨cb,4,none⟩=some (.int .i64 x.ins) :=
 ⟨ze h.2,ze h.2,ze h.2,ze h.2,ze h.2⟩
def z6n (x:GC):Prop:=(0≤x.row∧x.row≤8)∧(0≤x.col∧x.col≤84)∧(1≤x.rows∧x.rows≤3)∧(1≤x.cols∧x.cols≤4)∧0≤x.ins∧x.ins≤4
theorem z0i.small {n:Nat} {a:GC} (hn:n≤8) (h:z0i n a):z6n a:=by
 unfold z0i at h;unfold z6n;omega
structure Cel (t:T) (C:Nat) (x:GC):Prop where
 ex:∃ rn jn cn mn:Nat,x.row=rn∧x.ins=jn∧x.col=cn∧x.cols=mn∧rn < t.rows.length∧jn < (t.rows.getD rn dR).cells.length∧cn+mn≤C∧1≤mn∧mn≤4
 gap:0≤t.gap∧t.gap≤3
 rows:0≤x.rows∧x.rows≤8
theorem z4o {t:T} (hD:z0w t):(gOf t).cells.length≤40∧∃ C:Nat,(gOf t).cols=C∧C≤88∧∀ k,k < (gOf t).cells.length→Cel t C ((gOf t).cells.getD k dG):=by
 cases h:zA t with
 | false=>rw [z3n h];exact ⟨by simp,0,rfl,by omega,fun k hk=>absurd hk (Nat.not_lt_zero _)⟩
 | true =>
  have hl:=z2D h hD;have h8:=hl.rows;have h40:=z34 hl t.rows.length
  have hg:0≤t.gap∧t.gap≤3:=by
   simp only [zA,inB,Bool.and_eq_true,decide_eq_true_eq] at h;exact h.2.2.1
  have hc:t.cols.length≤8:=by
   simp only [zA,z0U,Bool.and_eq_true,decide_eq_true_eq] at h;omega
  have hcb:=z4F hl hc;rw [z4n h];refine ⟨by show (zu t t.rows.length).length≤40;omega,(zQ (max 1 (t.cols.length:Int)) (zR t)).toNat,by show zQ (max 1 (t.cols.length:Int)) (zR t)=_;omega,by omega,fun k hk=>⟨?_,hg,?_⟩⟩
  ·have hk':k < (zR t).length:=hk;obtain ⟨r,j,hr,hj,e⟩:=(z6A hl hk').ex;have hst:=z24 hl (z0X (d:=dG) hk');have hm:=z3m (m:=max 1 (t.cols.length:Int)) (z0X (d:=dG) hk');have e1:((zR t).getD k dG).row=r:=(by rw [e];rfl);have e2:((zR t).getD k dG).ins=j:=(by rw [e];rfl);unfold z0i at hst;show ∃ rn jn cn mn:Nat,((zR t).getD k dG).row=rn∧((zR t).getD k dG).ins=jn∧((zR t).getD k dG).col=cn∧((zR t).getD k dG).cols=mn∧_;refine ⟨r,j,((zR t).getD k dG).col.toNat,((zR t).getD k dG).cols.toNat,e1,e2,by omega,by omega,hr,hj,by omega,by omega,by omega⟩
  ·have hk':k < (zR t).length:=hk;have hst:=z24 hl (z0X (d:=dG) hk');unfold z0i at hst;show 0≤((zR t).getD k dG).rows∧((zR t).getD k dG).rows≤8;omega
end
section
open Go.RowKit Go.BigFrame
def z0A (t:T) (x:GC):C:=(t.rows.getD x.row.toNat dR).cells.getD x.ins.toNat dC
theorem z58 (ac ar:Option Addr) (cc cr:Nat) (t:T) (x:GC) {C:Nat} (hx:Cel t C x) (w:World) {z:Nat} (hr:zD w z (.slice ar t.rows.length cr) t.rows) :
  Calls Try.prog 84 #[.agg #[.slice ac t.cols.length cc,.int .i64 t.head,.int .i64 t.foot,.slice ar t.rows.length cr,.int .i64 t.gap],.agg #[.int .i64 x.row,.int .i64 x.col,.int .i64 x.rows,.int .i64 x.cols,.int .i64 x.ins]] w fun e w'=>e=.returned (.agg #[.string (z0A t x).s,.int .i64 (z0A t x).c,.int .i64 (z0A t x).r,.int .i64 (z0A t x).a1,.int .i64 (z0A t x).b1,.int .i64 (z0A t x).a2,.int .i64 (z0A t x).b2,.int .i64 (z0A t x).a3,.int .i64 (z0A t x).b3,.int .i64 (z0A t x).a4,.int .i64 (z0A t x).b4])∧(z0A t x).s.size≤maxLen∧Below w.heap.size w w':=by
 obtain ⟨rn,jn,cn,mn,e1,e2,e3,e4,h1,h2,h3,h4,h5⟩:=hx.ex;have HTx:Hid (z0A t x=(t.rows.getD rn dR).cells.getD jn dC):=(by rw [Hid,z0A,e1,e2,Int.toNat_natCast,Int.toNat_natCast]);have hmx:Try.prog.follows .mixedOrders=true:=(by kernel_rfl);have K1:=zb (Below.refl w.heap.size w) (.cells #[.slice ac t.cols.length cc,.int .i64 t.head,.int .i64 t.foot,.slice ar t.rows.length cr,.int .i64 t.gap] 49);have X1:=zh w (.cells #[.slice ac t.cols.length cc,.int .i64 t.head,.int .i64 t.foot,.slice ar t.rows.length cr,.int .i64 t.gap] 49);have hs1:(w.alloc (.cells #[.slice ac t.cols.length cc,.int .i64 t.head,.int .i64 t.foot,.slice ar t.rows.length cr,.int .i64 t.gap] 49)).heap.size=w.heap.size+1:=(by simp);rw [e1,e2];clear e1 e2 e3 e4;go_enter Try.func84,Try.ntmps84;go_upto_region 1 with fail
 have K2:=zb K1 (.cells #[.int .i64 (rn:Int),.int .i64 x.col,.int .i64 x.rows,.int .i64 x.cols,.int .i64 (jn:Int)] 27);have X2:=zh (w.alloc (.cells #[.slice ac t.cols.length cc,.int .i64 t.head,.int .i64 t.foot,.slice ar t.rows.length cr,.int .i64 t.gap] 49)) (.cells #[.int .i64 (rn:Int),.int .i64 x.col,.int .i64 x.rows,.int .i64 x.cols,.int .i64 (jn:Int)] 27);have X1':=(Below.heap_alloc (w.alloc (.cells #[.slice ac t.cols.length cc,.int .i64 t.head,.int .i64 t.foot,.slice ar t.rows.length cr,.int .i64 t.gap] 49)) (.cells #[.int .i64 (rn:Int),.int .i64 x.col,.int .i64 x.rows,.int .i64 x.cols,.int .i64 (jn:Int)] 27) w.heap.size (by omega)).trans X1;rw [hs1] at X2;have hs2:((w.alloc (.cells #[.slice ac t.cols.length cc,.int .i64 t.head,.int .i64 t.foot,.slice ar t.rows.length cr,.int .i64 t.gap] 49)).alloc (.cells #[.int .i64 (rn:Int),.int .i64 x.col,.int .i64 x.rows,.int .i64 x.cols,.int .i64 (jn:Int)] 27)).heap.size=w.heap.size+2:=(by simp);generalize (w.alloc (.cells #[.slice ac t.cols.length cc,.int .i64 t.head,.int .i64 t.foot,.slice ar t.rows.length cr,.int .i64 t.gap] 49)).alloc (.cells #[.int .i64 (rn:Int),.int .i64 x.col,.int .i64 x.rows,.int .i64 x.cols,.int .i64 (jn:Int)] 27)=W2 at K2 X2 X1' hs2 ⊢;have K3:=zb K2 (.cells #[.string ⟨#[]⟩,.int .i64 0,.int .i64 0,.int .i64 0,.int .i64 0,.int .i64 0,.int .i64 0,.int .i64 0,.int .i64 0,.int .i64 0,.int .i64 0] 89);have X3:=zh W2 (.cells #[.string ⟨#[]⟩,.int .i64 0,.int .i64 0,.int .i64 0,.int .i64 0,.int .i64 0,.int .i64 0,.int .i64 0,.int .i64 0,.int .i64 0,.int .i64 0] 89);have X1'':=(Below.heap_alloc W2 (.cells #[.string ⟨#[]⟩,.int .i64 0,.int .i64 0,.int .i64 0,.int .i64 0,.int .i64 0,.int .i64 0,.int .i64 0,.int .i64 0,.int .i64 0,.int .i64 0] 89) w.heap.size (by omega)).trans X1';have X2':=(Below.heap_alloc W2 (.cells #[.string ⟨#[]⟩,.int .i64 0,.int .i64 0,.int .i64 0,.int .i64 0,.int .i64 0,.int .i64 0,.int .i64 0,.int .i64 0,.int .i64 0,.int .i64 0] 89) (w.heap.size+1) (by omega)).trans X2;rw [show W2.heap.size=w.heap.size+1+1 by omega] at X3;generalize W2.alloc (.cells #[.string ⟨#[]⟩,.int .i64 0,.int .i64 0,.int .i64 0,.int .i64 0,.int .i64 0,.int .i64 0,.int .i64 0,.int .i64 0,.int .i64 0,.int .i64 0] 89)=W at K3 X3 X1'' X2' ⊢;clear K1 X1 hs1 K2 X2 X1' hs2;obtain ⟨rb,roff,rcap,re,rc1,rc2,rbl,u,hu0,_,hu⟩:=At.get (hr.kept K3) h1;simp only [Value.slice.injEq,true_and] at re;obtain ⟨rfl,rfl⟩:=re;obtain ⟨qb,qoff,qcap,qe,qc1,qc2,qbl,hv,hsl⟩:=At.get hu h2;subst qe;obtain ⟨v0,v1,v2,v3,v4,v5,v6,v7,v8,v9,v10⟩:=hv;have l1:w.heap.size < W.heap.size:=(bL X1'');have l2:w.heap.size+1 < W.heap.size:=(bL X2');have hne:=z1r W;have m0:=zf (a:=⟨w.heap.size,3,none⟩) l1 (ze (p:=3) X1'');have m1:=zf (a:=⟨w.heap.size+1,0,none⟩) l2 (ze (p:=0) X2');have m2:=zf (a:=⟨w.heap.size+1,4,none⟩) l2 (ze (p:=4) X2');have m3:=zf rbl hu0;have n0:=zf qbl v0;have n1:=zf qbl v1;have n2:=zf qbl v2;have n3:=zf qbl v3;have n4:=zf qbl v4;have n5:=zf qbl v5;have n6:=zf qbl v6;have n7:=zf qbl v7;have n8:=zf qbl v8;have n9:=zf qbl v9;have n10:=zf qbl v10;have HSZ:Hid ((z0A t x).s.size≤maxLen):=(by rw [Hid,HTx.out];exact hsl);have HK:=Hd K3;have HX3:=Hd X3;unfold maxLen at rc2 qc2;generalize (t.rows.getD rn dR).cells.getD jn dC=y at *;generalize (t.rows.getD rn dR).cells.length=rl at h2 m3 qc1;clear hu hu0 hr h3 h4 h5 hx K3 X3 X1'' X2' v0 v1 v2 v3 v4 v5 v6 v7 v8 v9 v10 hsl;refine z2h 11 hmx (by rfl) (by rfl) (by kernel_rfl) (by kernel_rfl) ?_;simp only [List.take_succ_cons,List.take_zero];repeat (go_big_quiet_step (fail))
 refine wpQuiet_nil ?_;intro W5 hw';obtain ⟨⟨Wx,hW5⟩,hw''⟩:=hw';subst hw'';have l3:w.heap.size+1+1 < W.heap.size:=(bL HX3.out);have X5:=(hW5.block _ l3).trans HX3.out;obtain ⟨⟨c0,c1,c2,c3,c4,c5,c6,c7,c8,c9,c10⟩,f0,f1,f2,f3,f4,f5,f6,f7,f8,f9,f10⟩:=zH X5;have HK5:=Hd (zc HK.out hW5);clear m0 m1 m2 m3 n0 n1 n2 n3 n4 n5 n6 n7 n8 n9 n10 hne hW5 X5;rw [if_pos (by rfl)];go_simp;go_wp2;exact bodyPost_ret (v:=.agg #[.string y.s,.int .i64 y.c,.int .i64 y.r,.int .i64 y.a1,.int .i64 y.b1,.int .i64 y.a2,.int .i64 y.b2,.int .i64 y.a3,.int .i64 y.b3,.int .i64 y.a4,.int .i64 y.b4]) (by simp [results,Try.results84,go_sem,c0,c1,c2,c3,c4,c5,c6,c7,c8,c9,c10]) rfl ⟨by rw [HTx.out],HSZ.out,HK5.out.trans ((z0x W5 (w.heap.size+1+1) (.string y.s) (.int .i64 y.c) (.int .i64 y.r) (.int .i64 y.a1) (.int .i64 y.b1) (.int .i64 y.a2) (.int .i64 y.b2) (.int .i64 y.a3) (.int .i64 y.b3) (.int .i64 y.a4) (.int .i64 y.b4)).below HK5.out.size (by omega))⟩
end
section
open Go.RowKit
def atN (t:T) (r c:Int):Int:=z0O (z07 r c) (gOf t).cells
def zq (t:T) (i:Int):C:=if i < 0 then dC else z0A t ((gOf t).cells.getD i.toNat dG)
def z08 (x y:Fr):Fr:=if x.c=y.c then dF else if x.c < 0 then y else if y.c < 0 then x else if btF y x=true then y else x
def zi (t:T) (r c:Int):Fr:=z08 ⟨(zq t (atN t (r - 1) c)).a3,(zq t (atN t (r - 1) c)).b3,atN t (r - 1) c⟩ ⟨(zq t (atN t r c)).a1,(zq t (atN t r c)).b1,atN t r c⟩
def zj (t:T) (r c:Int):Fr:=z08 ⟨(zq t (atN t r (c - 1))).a2,(zq t (atN t r (c - 1))).b2,atN t r (c - 1)⟩ ⟨(zq t (atN t r c)).a4,(zq t (atN t r c)).b4,atN t r c⟩
theorem z1R:zG []=dF:=rfl
theorem z1K (x:Fr):zG [x]=x:=rfl
theorem z35 (x y:Fr):zG [x,y]=if btF y x=true then y else x:=rfl
def z0k (x:Fr):List Value:=[.int .i64 x.s,.int .i64 x.w,.int .i64 x.c]
theorem z3r:(Try.prog.info? 42).map (fun i=>(i.zero,i.size,i.bytes))=some (some (Value.agg #[.int .i64 0,.int .i64 0,.int .i64 0]),3,24):=by kernel_rfl
theorem z15 {w:World} {base:Nat} {v:Value} {l:List Fr} (h:w.ownsRow base 42 3 v l.length (l.flatMap z0k)):z0u w base v l:=by
 rcases h.2 with ⟨rfl,hn⟩ | ⟨g,cap,cur,rfl,hg,hc,h3,h4,_⟩
 ·exact ⟨none,0,by rw [hn],by omega,by unfold maxLen;omega,fun i hi=>by omega⟩
 ·refine ⟨_,cap,rfl,h3,h4,fun i hi=>⟨g,0,rfl,(bL hc),hg,?_⟩⟩
  have hx:∀ j,j < 3→w.cell? ⟨g,i * 3+j,none⟩=(z0k l[i])[j]?:=fun j hj=>by
   have e:=z1o z0k 3 (fun _=>rfl) l i hi j hj;rw [z1G h (u:=(z0k l[i])[j]'(by show j < 3;exact hj)) (by rw [e];simp)];simp
  have e:l.getD i dF=l[i]:=(by simp [List.getD,hi]);dsimp only;rw [e,Nat.zero_add];exact ⟨hx 0 (by omega),hx 1 (by omega),hx 2 (by omega)⟩
def z1B (f:Int→Int→Fr) (r c:Nat):List Fr:=(List.range c).map (fun k:Nat=>f r k)
def zJ (f:Int→Int→Fr) (C r:Nat):List Fr:=(List.range r).flatMap (fun q:Nat=>z1B f q C)
theorem z3T (f:Int→Int→Fr) (r c:Nat):(z1B f r c).length=c:=by simp [z1B]
theorem z59 (f:Int→Int→Fr) (r c:Nat):z1B f r (c+1)=z1B f r c ++ [f r c]:=by simp [z1B,List.range_succ]
theorem z2p (f:Int→Int→Fr) (C r:Nat):zJ f C (r+1)=zJ f C r ++ z1B f r C:=by simp [zJ,List.range_succ]
theorem z0Z (f:Int→Int→Fr) (C:Nat):∀ r,(zJ f C r).length=r * C
 | 0=>by simp [zJ]
 | r+1=>by rw [z2p,List.length_append,z0Z f C r,z3T,Nat.succ_mul]
theorem z5N (f:Int→Int→Fr) {r c k:Nat} (h:k < c):(z1B f r c).getD k dF=f r k:=by simp [z1B,List.getD,h]
theorem z2I (f:Int→Int→Fr) {C:Nat} {c:Nat} (hc:c < C):∀ {R r:Nat},r < R→(zJ f C R).getD (r * C+c) dF=f r c
 | R+1,r,h=>by
  have hl:=z0Z f C R;rw [z2p,List.getD_eq_getElem?_getD]
  rcases Nat.lt_or_eq_of_le (Nat.lt_succ_iff.1 h) with h1 | rfl
  ·have hlt:r * C+c < R * C:=by
    have:(r+1) * C≤R * C:=Nat.mul_le_mul_right C h1;rw [Nat.succ_mul] at this;omega
   rw [List.getElem?_append_left (by omega),← List.getD_eq_getElem?_getD];exact z2I f hc h1
  ·rw [List.getElem?_append_right (by omega),hl,Nat.add_sub_cancel_left,← List.getD_eq_getElem?_getD];exact z5N f hc
def upF (f:Int→Int→Fr) (C r c:Nat):List Fr:=zJ f C r ++ z1B f r c
theorem z2q (f:Int→Int→Fr) (C r:Nat):upF f C r 0=zJ f C r:=by simp [upF,z1B]
theorem z2r (f:Int→Int→Fr) (C r:Nat):upF f C r C=zJ f C (r+1):=(z2p f C r).symm
theorem z2s (f:Int→Int→Fr) (C r c:Nat):upF f C r (c+1)=upF f C r c ++ [f r c]:=by rw [upF,z59,← List.append_assoc];rfl
theorem z2Q (f:Int→Int→Fr) (C r c:Nat):(upF f C r c).length=r * C+c:=by rw [upF,List.length_append,z0Z,z3T]
def z0e (t:T):List Fr:=zJ (zi t) (gOf t).cols.toNat ((gOf t).rows.toNat+1) ++ zJ (zj t) ((gOf t).cols.toNat+1) (gOf t).rows.toNat
def shB (x:Fr):Bool:=decide (1≤x.s) && decide (x.s≤3)
def z0C (l:List Fr) (k:Nat):Nat:=((l.take k).filter shB).length
theorem z2J (l:List Fr):z0C l 0=0:=by simp [z0C]
theorem z2K {l:List Fr} {k:Nat} (h:k < l.length):z0C l (k+1)=z0C l k+(if shB (l.getD k dF)=true then 1 else 0):=by
 rw [z0C,List.take_succ_eq_append_getElem h,List.filter_append,List.length_append,z0C];have e:l.getD k dF=l[k]:=(by simp [List.getD,h]);rw [e]
 congr 1
 by_cases hs:shB l[k]=true
 ·rw [List.filter_cons_of_pos hs,if_pos hs];rfl
 ·rw [List.filter_cons_of_neg hs,if_neg hs];rfl
theorem z3I (l:List Fr) (k:Nat):z0C l k≤k:=by
 unfold z0C;exact Nat.le_trans (List.length_filter_le _ _) (by rw [List.length_take];omega)
def StF (x:Fr):Prop:=0≤x.s∧x.s≤4
theorem z6X:StF dF:=⟨by decide,by decide⟩
theorem z4U {x y:Fr} (hx:StF x) (hy:StF y):StF (z08 x y):=by
 unfold z08
 split
 ·exact z6X
 ·split
  ·exact hy
  ·split
   ·exact hx
   ·split
    ·exact hy
    ·exact hx
def StC (x:C):Prop:=(0≤x.a1∧x.a1≤4)∧(0≤x.a2∧x.a2≤4)∧(0≤x.a3∧x.a3≤4)∧(0≤x.a4∧x.a4≤4)
theorem z3s {a b:Int} (h:zY a b=true):0≤a∧a≤4:=by
 simp only [zY,decide_eq_true_eq] at h;omega
theorem z6B {t:T} (hok:zA t=true) (q i:Nat):StC ((t.rows.getD q dR).cells.getD i dC):=by
 by_cases hq:q < t.rows.length
 ·by_cases hi:i < (t.rows.getD q dR).cells.length
  ·have hm:t.rows.getD q dR ∈ t.rows:=(by rw [z0P dR hq];exact List.getElem_mem hq);simp only [zA,Bool.and_eq_true,List.all_eq_true] at hok;have h0:=hok.2.2.2.2 _ hm;simp only [z0y,Bool.and_eq_true,decide_eq_true_eq,List.all_eq_true] at h0;have h1:=h0.2 _ (List.getElem_mem hi);rw [← z0P dC hi] at h1;simp only [cB,zy,Bool.and_eq_true] at h1;exact ⟨z3s h1.2.2.2.1,z3s h1.2.2.2.2.1,z3s h1.2.2.2.2.2.1,z3s h1.2.2.2.2.2.2⟩
  ·rw [List.getD_eq_getElem?_getD,List.getElem?_eq_none (by omega)];show StC dC;unfold StC dC;simp only;omega
 ·rw [show t.rows.getD q dR=dR by simp [List.getD,hq]];show StC ((dR.cells).getD i dC);rw [show dR.cells.getD i dC=dC by simp [dR]];unfold StC dC;simp only;omega
theorem z5a {t:T} (hok:zA t=true) (i:Int):StC (zq t i):=by
 unfold zq
 split
 ·unfold StC dC;simp only;omega
 ·exact z6B hok _ _
theorem z6K {t:T} (hok:zA t=true):∀ x ∈ z0e t,StF x:=by
 intro x hx;unfold z0e at hx
 have h:∀ f:Int→Int→Fr,(∀ r c,StF (f r c))→∀ C R,∀ x ∈ zJ f C R,StF x:=fun f hf C R x hx=>by
  obtain ⟨q,_,h2⟩:=List.mem_flatMap.1 hx;obtain ⟨k,_,rfl⟩:=List.mem_map.1 h2;exact hf _ _
 rcases List.mem_append.1 hx with h1 | h1
 ·refine h (zi t) (fun r c=>?_) _ _ x h1;unfold zi;exact z4U (z5a hok _).2.2.1 (z5a hok _).1
 ·refine h (zj t) (fun r c=>?_) _ _ x h1;unfold zj;exact z4U (z5a hok _).2.1 (z5a hok _).2.2.2
def z7n (w:World) (b o:Nat) (x:Fr):Prop:=w.cell? ⟨b,o,none⟩=some (.int .i64 x.s)∧w.cell? ⟨b,o+1,none⟩=some (.int .i64 x.w)∧w.cell? ⟨b,o+2,none⟩=some (.int .i64 x.c)
def z0h (w:World) (base:Nat) (v:Value) (l:List Fr):Prop:=w.ownsRow base 42 3 v l.length (l.flatMap z0k)
theorem z0h.at {w:World} {base:Nat} {v:Value} {l:List Fr} (h:z0h w base v l):z0u w base v l:=z15 h
theorem z25 {w:World} {base:Nat} {v:Value} {l:List Fr} {q:Fr} (h:w.ownsRow base 42 3 v (l.length+1) (l.flatMap z0k ++ [.int .i64 q.s,.int .i64 q.w,.int .i64 q.c])):z0h w base v (l ++ [q]):=by
 unfold z0h;rw [List.length_append,List.flatMap_append]
 simpa [z0k] using h
theorem z2t {t:T} (hD:z0w t):∃ R C:Nat,(gOf t).rows=R∧(gOf t).cols=C∧R≤8∧C≤88:=by
 obtain ⟨_,C,hgc,hC,_⟩:=z4o hD
 cases h:zA t with
 | false=>exact ⟨0,C,by rw [z3n h];rfl,hgc,by omega,hC⟩
 | true=>exact ⟨t.rows.length,C,by rw [z4n h],hgc,(z2D h hD).rows,hC⟩
theorem z4r {t:T} (hD:z0w t):(z0e t).length≤5000:=by
 obtain ⟨R,C,hgr,hgc,hR8,hC88⟩:=z2t hD;rw [z0e,hgr,hgc,Int.toNat_natCast,Int.toNat_natCast,List.length_append,z0Z,z0Z];have h1:=Nat.mul_le_mul (show R+1≤9 by omega) (show C≤88 by omega);have h2:=Nat.mul_le_mul (show R≤8 by omega) (show C+1≤89 by omega);omega
theorem z3t (t:T) (r c:Int):atN t r c=-1∨∃ k:Nat,atN t r c=k∧k < (gOf t).cells.length:=by
 unfold atN z0O
 split
 ·rename_i k h
  exact .inr ⟨k,rfl,(List.findIdx?_eq_some_iff_getElem.1 h).1⟩
 ·exact .inl rfl
theorem z0o {w w':World} {base:Nat} {e:TypeId} {sz:Nat} {v:Value} {m:Nat} {xs:List Value} (h:w.ownsRow base e sz v m xs) (k:Below w.heap.size w w'):w'.ownsRow base e sz v m xs:=by
 refine ⟨h.1,?_⟩
 rcases h.2 with h | ⟨g,cap,cur,hv,hb,hg,r⟩
 ·exact .inl h
 ·exact .inr ⟨g,cap,cur,hv,hb,(k.block g (bL hg)).trans hg,r⟩
end
end Go.Proofs.Ytggmjiddadjilag
