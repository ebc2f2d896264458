/-
  PROVED HERE: where each cell of a drawn table's grid stands: in its row, behind the one ahead of it, at the first column at which it is free; the grid is ok; it has as many cells as the table. Also: 8 more texts of the same proof.
-/
import Derived.Test.YtggmjiddadjilamC15
import Derived.Test.YtggmjiddadjilamC8
import Derived.Test.YtggmjiddadjilamC19
set_option maxRecDepth 1000000
set_option maxHeartbeats 40000000
namespace Go.Proofs.Ytggmjiddadjilam
section
theorem z2K {α:Type} {l:List α} {x d:α} {k:Nat} (h:k < l.length):(l ++ [x]).getD k d=l.getD k d:=by
 simp [List.getD,List.getElem?_append_left h]
theorem z1B {α:Type} {l:List α} {x d:α}:(l ++ [x]).getD l.length d=x:=by simp [List.getD]
theorem z3E {α:Type} {l:List α} {x:α} {k:Nat} (h:k≤l.length):(l ++ [x]).take k=l.take k:=by
 rw [List.take_append_of_le_length h]
theorem z6L (gs:List GC) (r i:Nat) (e:Int) (x:C) (c:Int):z08 (z0b gs r i e x) c=z08 (z1u r i e x) c:=by simp only [z0b,z08]
theorem z8u (gs:List GC) (r i:Nat) (e:Int) (x:C):(z0b gs r i e x).col=(z21 gs (z1u r i e x):Int):=by simp only [z0b,z08]
structure z6k (t:T) (gs:List GC) (k:Nat):Prop where
 ex:∃ r j:Nat,r < t.rows.length∧j < (t.rows.getD r dR).cells.length∧gs.getD k dG=z0b (gs.take k) r j (zK t r) ((t.rows.getD r dR).cells.getD j dC)
 free:z0F (gs.take k) (gs.getD k dG)=true
 first:∀ c:Nat,(c:Int) < (gs.getD k dG).col→z0F (gs.take k) (z08 (gs.getD k dG) c)=false
 after:0 < k→(gs.getD (k - 1) dG).row < (gs.getD k dG).row∨(gs.getD (k - 1) dG).row=(gs.getD k dG).row∧(gs.getD (k - 1) dG).ins+1=(gs.getD k dG).ins
theorem z6k.snoc {t:T} {gs:List GC} {k:Nat} (x:GC) (hk:k < gs.length) (h:z6k t gs k):z6k t (gs ++ [x]) k:=by
 have e1:(gs ++ [x]).getD k dG=gs.getD k dG:=z2K hk;have e2:(gs ++ [x]).take k=gs.take k:=z3E (by omega);have e3:(gs ++ [x]).getD (k - 1) dG=gs.getD (k - 1) dG:=z2K (by omega);refine ⟨?_,?_,?_,?_⟩
 ·rw [e1,e2];exact h.ex
 ·rw [e1,e2];exact h.free
 ·rw [e1,e2];exact h.first
 ·rw [e1,e3];exact h.after
structure z1j (t:T) (gs:List GC) (r i:Nat):Prop where
 part:z1y t gs r i
 laid:∀ k,k < gs.length→z6k t gs k
 last:0 < gs.length→(gs.getD (gs.length - 1) dG).row < r∨(gs.getD (gs.length - 1) dG).row=r∧(gs.getD (gs.length - 1) dG).ins+1=i
theorem z1j.next {t:T} {gs:List GC} {r i:Nat} (h:z1j t gs r i) (hl:Low t) (hr:r < t.rows.length) (hi:i < (t.rows.getD r dR).cells.length) :
  z1j t (gs ++ [z0b gs r i (zK t r) ((t.rows.getD r dR).cells.getD i dC)]) r (i+1):=by
 obtain ⟨⟨h1,h2,h3,h4⟩,hp⟩:=h.part.next hl hr hi;refine ⟨hp,?_,?_⟩
 ·intro k hk;rw [List.length_append,List.length_singleton] at hk;by_cases hk2:k < gs.length
  ·exact (h.laid k hk2).snoc _ hk2
  ·obtain rfl:k=gs.length:=by omega
   have e2:∀ x:GC,(gs ++ [x]).take gs.length=gs:=fun x=>by rw [z3E (Nat.le_refl _),List.take_length]
   refine ⟨?_,?_,?_,?_⟩
   ·rw [z1B,e2];exact ⟨r,i,hr,hi,rfl⟩
   ·rw [z1B,e2];exact h2
   ·rw [z1B,e2];intro c hc;rw [z8u] at hc;rw [z6L];exact h3 c (Int.ofNat_lt.1 hc)
   ·intro h0;rw [z1B,z2K (by omega)];exact h.last h0
 ·intro _;rw [List.length_append,List.length_singleton,Nat.add_sub_cancel,z1B];refine .inr ⟨rfl,?_⟩;show (i:Int)+1=((i+1:Nat):Int);omega
theorem z1j.zero (t:T):z1j t [] 0 0:=⟨z1y.zero t,fun _ hk=>absurd hk (Nat.not_lt_zero _),fun h=>absurd h (Nat.lt_irrefl _)⟩
theorem z1j.rowEnd {t:T} {gs:List GC} {r:Nat} (h:z1j t gs r (t.rows.getD r dR).cells.length):z1j t gs (r+1) 0:=by
 refine ⟨h.part.rowEnd,h.laid,fun h0=>.inl ?_⟩
 rcases h.last h0 with h1 | ⟨h1,_⟩ <;> omega
theorem z6l {t:T} (hl:Low t) {r:Nat} (hr:r < t.rows.length) (h:z1j t (zA t r) r 0):∀ i,i≤(t.rows.getD r dR).cells.length→z1j t (z0w (zK t r) r (t.rows.getD r dR).cells (zA t r) i) r i
 | 0,_=>h
 | i+1,hi=>z1j.next (z6l hl hr h i (by omega)) hl hr (by omega)
theorem z5u {t:T} (hl:Low t):∀ r,r≤t.rows.length→z1j t (zA t r) r 0
 | 0,_=>z1j.zero t
 | r+1,hr=>(z6l hl (by omega) (z5u hl r (by omega)) _ (Nat.le_refl _)).rowEnd
theorem z9X {t:T} (hl:Low t) {k:Nat} (hk:k < (zU t).length):z6k t (zU t) k:=(z5u hl _ (Nat.le_refl _)).laid k hk
theorem z2T {t:T} (hl:Low t) {a:GC} (ha:a ∈ zU t):z0K t.rows.length a:=((z3C hl _ (Nat.le_refl _)).stands a ha).1
theorem z33 (m:Int) (a:GC) (gs:List GC):z0i m (a :: gs)=z0i (max m (a.col+a.cols)) gs:=rfl
theorem z3F:∀ (gs:List GC) (m:Int),m≤z0i m gs
 | [],m=>Int.le_refl _
 | a :: gs,m=>by rw [z33];exact Int.le_trans (Int.le_max_left _ _) (z3F gs _)
theorem z4H:∀ {gs:List GC} {m:Int} {a:GC},a ∈ gs→a.col+a.cols≤z0i m gs
 | b :: gs,m,a,h=>by
  rw [z33]
  rcases List.mem_cons.1 h with rfl | h
  ·exact Int.le_trans (Int.le_max_right _ _) (z3F gs _)
  ·exact z4H h
theorem z5v:∀ {gs:List GC} {m B:Int},m≤B→(∀ a ∈ gs,a.col+a.cols≤B)→z0i m gs≤B
 | [],m,B,h,_=>h
 | a :: gs,m,B,h,h2=>by
  rw [z33];exact z5v (Int.max_le.2 ⟨h,h2 a (by simp)⟩) (fun b hb=>h2 b (by simp [hb]))
theorem z6M {t:T} (hl:Low t) (hc:t.cols.length≤8):1≤z0i (max 1 (t.cols.length:Int)) (zU t)∧z0i (max 1 (t.cols.length:Int)) (zU t)≤88∧(t.cols.length:Int)≤z0i (max 1 (t.cols.length:Int)) (zU t):=by
 have h1:=z3F (zU t) (max 1 (t.cols.length:Int));have h2:z0i (max 1 (t.cols.length:Int)) (zU t)≤88:=z5v (by omega) (fun a ha=>by have:=z2T hl ha;unfold z0K at this;omega);omega
end
section
open Go.RowKit
def TA (w:World) (z:Nat) (ac ar:Option Addr) (cc cr:Nat) (t:T):Prop:=zS w z (.slice ac t.cols.length cc) t.cols∧zC w z (.slice ar t.rows.length cr) t.rows
theorem TA.kept {w w':World} {z:Nat} {ac ar:Option Addr} {cc cr:Nat} {t:T} (h:TA w z ac ar cc cr t) (hb:Below w.heap.size w w'):TA w' z ac ar cc cr t:=⟨h.1.kept hb,h.2.kept hb⟩
def St (w:World) (tb:Nat) (ac ar:Option Addr) (cc cr:Nat) (t:T) (W:World):Prop:=Below w.heap.size w W∧TA W w.heap.size ac ar cc cr t∧W.heap[tb]?=some (.cells #[.slice ac t.cols.length cc,.int .i64 t.head,.int .i64 t.foot,.slice ar t.rows.length cr,.int .i64 t.gap] 26)
theorem St.kept {w W W':World} {tb:Nat} {ac ar:Option Addr} {cc cr:Nat} {t:T} (h:St w tb ac ar cc cr t W) (hb:Below W.heap.size W W'):St w tb ac ar cc cr t W' :=
 ⟨h.1.trans (hb.mono h.1.size),h.2.1.kept hb,(hb.block tb (bL h.2.2)).trans h.2.2⟩
theorem St.at {w W:World} {tb:Nat} {ac ar:Option Addr} {cc cr:Nat} {t:T} (h:St w tb ac ar cc cr t W):(W.cell? ⟨tb,0,none⟩=some (.slice ac t.cols.length cc)∧W.cell? ⟨tb,1,none⟩=some (.int .i64 t.head)∧W.cell? ⟨tb,2,none⟩=some (.int .i64 t.foot)∧W.cell? ⟨tb,3,none⟩=some (.slice ar t.rows.length cr)∧W.cell? ⟨tb,4,none⟩=some (.int .i64 t.gap)):=(z1e h.2.2).1
theorem z9Y {t:T} (hD:z0Q t):∀ x ∈ (gOf t).cells,GOk x:=by
 unfold gOf
 split
 ·rename_i h
  have hl:=z4G h hD;exact fun x hx=>(z2T hl hx).gok hl.rows
 ·intro x hx
  cases hx
def SGr (w:World) (tb gb:Nat) (ac ar:Option Addr) (cc cr:Nat) (t:T) (ag:Option Addr) (cg:Nat) (W:World):Prop :=
 St w tb ac ar cc cr t W∧z1M W w.heap.size (.slice ag (gOf t).cells.length cg) (gOf t).cells∧W.heap[gb]?=some (.cells #[.int .i64 (gOf t).rows,.int .i64 (gOf t).cols,.slice ag (gOf t).cells.length cg] 98)
theorem SGr.kept {w W W':World} {tb gb:Nat} {ac ar ag:Option Addr} {cc cr cg:Nat} {t:T} (h:SGr w tb gb ac ar cc cr t ag cg W) (hb:Below W.heap.size W W'):SGr w tb gb ac ar cc cr t ag cg W' :=
 ⟨h.1.kept hb,h.2.1.kept hb,(hb.block gb (bL h.2.2)).trans h.2.2⟩
theorem SGr.at {w W:World} {tb gb:Nat} {ac ar ag:Option Addr} {cc cr cg:Nat} {t:T} (h:SGr w tb gb ac ar cc cr t ag cg W):W.cell? ⟨gb,0,none⟩=some (.int .i64 (gOf t).rows)∧W.cell? ⟨gb,1,none⟩=some (.int .i64 (gOf t).cols)∧W.cell? ⟨gb,2,none⟩=some (.slice ag (gOf t).cells.length cg) :=
 ⟨zc h.2.2,zc h.2.2,zc h.2.2⟩
theorem z8v {w:World} {base:Nat} {v:Value} {gs:List GC} (h:z6g w base v gs):∃ a cap,v=.slice a gs.length cap:=by
 rcases h.2 with ⟨rfl,hn⟩ | ⟨g,cap,cur,rfl,_⟩
 ·exact ⟨none,0,by rw [hn]⟩
 ·exact ⟨_,cap,rfl⟩
theorem z8w {t:T} (h:zq t=true):gOf t=⟨t.rows.length,z0i (max 1 (t.cols.length:Int)) (zU t),zU t⟩:=by unfold gOf;rw [if_pos h]
theorem z8x {t:T} (h:zq t=false):gOf t=⟨0,0,[]⟩:=by unfold gOf;rw [if_neg (by rw [h];simp)]
def SCe (w:World) (tb gb cb:Nat) (ac ar:Option Addr) (cc cr:Nat) (t:T) (ag:Option Addr) (cg:Nat) (x:GC) (W:World):Prop :=
 SGr w tb gb ac ar cc cr t ag cg W∧W.heap[cb]?=some (.cells #[.int .i64 x.row,.int .i64 x.col,.int .i64 x.rows,.int .i64 x.cols,.int .i64 x.ins] 115)
theorem SCe.kept {w W W':World} {tb gb cb:Nat} {ac ar ag:Option Addr} {cc cr cg:Nat} {t:T} {x:GC} (h:SCe w tb gb cb ac ar cc cr t ag cg x W) (hb:Below W.heap.size W W'):SCe w tb gb cb ac ar cc cr t ag cg x W' :=
 ⟨h.1.kept hb,(hb.block cb (bL h.2)).trans h.2⟩
theorem SCe.at {w W:World} {tb gb cb:Nat} {ac ar ag:Option Addr} {cc cr cg:Nat} {t:T} {x:GC} (h:SCe w tb gb cb ac ar cc cr t ag cg x W):W.cell? ⟨cb,0,none⟩=some (.int .i64 x.row)∧W.cell? ⟨cb,1,none⟩=some (.int .i64 x.col)∧W.cell? ⟨cb,2,none⟩=some (.int .i64 x.rows)∧W.cell? ⟨cb,3,none⟩=some (.int .i64 x.cols)∧W.cell? ⟨cb,4,none⟩=some (.int .i64 x.ins) :=
 ⟨zc h.2,zc h.2,zc h.2,zc h.2,zc h.2⟩
def z9H (x:GC):Prop:=(0≤x.row∧x.row≤8)∧(0≤x.col∧x.col≤84)∧(1≤x.rows∧x.rows≤3)∧(1≤x.cols∧x.cols≤4)∧0≤x.ins∧x.ins≤4
theorem z0K.small {n:Nat} {a:GC} (hn:n≤8) (h:z0K n a):z9H a:=by
 unfold z0K at h;unfold z9H;omega
def zN (p:GC→Int) (gap s:Int) (gs:List GC) (l:List Int):Nat→List Int
 | 0=>l
 | k+1=>if (gs.getD k dG).cols=s then z1H (zN p gap s gs l k) (gs.getD k dG).col.toNat (gs.getD k dG).cols.toNat gap (p (gs.getD k dG)) else zN p gap s gs l k
def z0q (p:GC→Int) (gap:Int) (gs:List GC) (l:List Int):Nat→List Int
 | 0=>l
 | s+1=>zN p gap ((s+1:Nat):Int) gs (z0q p gap gs l s) gs.length
theorem z1p (p:GC→Int) (gap s:Int) (gs:List GC) (l:List Int):∀ k,(zN p gap s gs l k).length=l.length
 | 0=>rfl
 | k+1=>by rw [zN];split;rw [z5n];exact z1p p gap s gs l k;exact z1p p gap s gs l k
theorem z23 (p:GC→Int) (gap:Int) (gs:List GC) (l:List Int):∀ s,(z0q p gap gs l s).length=l.length
 | 0=>rfl
 | s+1=>by rw [z0q,z1p,z23 p gap gs l s]
def zP (t:T) (x:GC):ByteArray:=((t.rows.getD x.row.toNat dR).cells.getD x.ins.toNat dC).s
structure Cel (t:T) (C:Nat) (x:GC):Prop where
 ex:∃ rn jn cn mn:Nat,x.row=rn∧x.ins=jn∧x.col=cn∧x.cols=mn∧rn < t.rows.length∧jn < (t.rows.getD rn dR).cells.length∧cn+mn≤C∧1≤mn∧mn≤4
 gap:0≤t.gap∧t.gap≤3
 rows:0≤x.rows∧x.rows≤8
theorem z4I {t:T} (hD:z0Q t):(gOf t).cells.length≤40∧∃ C:Nat,(gOf t).cols=C∧C≤88∧∀ k,k < (gOf t).cells.length→Cel t C ((gOf t).cells.getD k dG):=by
 cases h:zq t with
 | false=>rw [z8x h];exact ⟨by simp,0,rfl,by omega,fun k hk=>absurd hk (Nat.not_lt_zero _)⟩
 | true =>
  have hl:=z4G h hD;have h8:=hl.rows;have h40:=z6b hl t.rows.length
  have hg:0≤t.gap∧t.gap≤3:=by
   simp only [zq,inB,Bool.and_eq_true,decide_eq_true_eq] at h;exact h.2.2.1
  have hc:t.cols.length≤8:=by
   simp only [zq,z0Y,Bool.and_eq_true,decide_eq_true_eq] at h;omega
  have hcb:=z6M hl hc;rw [z8w h];refine ⟨by show (zA t t.rows.length).length≤40;omega,(z0i (max 1 (t.cols.length:Int)) (zU t)).toNat,by show z0i (max 1 (t.cols.length:Int)) (zU t)=_;omega,by omega,fun k hk=>⟨?_,hg,?_⟩⟩
  ·have hk':k < (zU t).length:=hk;obtain ⟨r,j,hr,hj,e⟩:=(z9X hl hk').ex;have hst:=z2T hl (z1f (d:=dG) hk');have hm:=z4H (m:=max 1 (t.cols.length:Int)) (z1f (d:=dG) hk');have e1:((zU t).getD k dG).row=r:=(by rw [e];rfl);have e2:((zU t).getD k dG).ins=j:=(by rw [e];rfl);unfold z0K at hst;show ∃ rn jn cn mn:Nat,((zU t).getD k dG).row=rn∧((zU t).getD k dG).ins=jn∧((zU t).getD k dG).col=cn∧((zU t).getD k dG).cols=mn∧_;refine ⟨r,j,((zU t).getD k dG).col.toNat,((zU t).getD k dG).cols.toNat,e1,e2,by omega,by omega,hr,hj,by omega,by omega,by omega⟩
  ·have hk':k < (zU t).length:=hk;have hst:=z2T hl (z1f (d:=dG) hk');unfold z0K at hst;show 0≤((zU t).getD k dG).rows∧((zU t).getD k dG).rows≤8;omega
theorem z55 {t:T} {C:Nat} {gs:List GC} {p:GC→Int} {l:List Int} {B s:Int} (hC:∀ k,k < gs.length→Cel t C (gs.getD k dG)) (hl:l.length=C) (hp:∀ x,p x≤30) (hb:UpB l B) (hB:B+30 * gs.length≤50000):∀ k,k≤gs.length→UpB (zN p t.gap s gs l k) (B+30 * (k:Int))
 | 0,_=>by intro i hi;have:=hb i hi;show 0≤l.getD i 0∧l.getD i 0≤_;omega
 | k+1,hk=>by
  have ih:=z55 (s:=s) hC hl hp hb hB k (by omega);have hx:=hC k (by omega);rw [zN]
  split
  ·obtain ⟨rn,jn,cn,mn,e1,e2,e3,e4,h1,h2,h3,h4,h5⟩:=hx.ex;rw [e3,e4,Int.toNat_natCast,Int.toNat_natCast];have:=z86 ih (by omega) (by rw [z1p,hl];exact h3) ⟨h4,h5⟩ hx.gap (hp (gs.getD k dG)) (c:=cn) (m:=mn);intro i hi;have:=this i hi;omega
  ·intro i hi;have:=ih i hi;omega
theorem z56 {t:T} {C:Nat} {gs:List GC} {p:GC→Int} {l:List Int} (hC:∀ k,k < gs.length→Cel t C (gs.getD k dG)) (h40:gs.length≤40) (hl:l.length=C) (hp:∀ x,p x≤30) (hb:UpB l 0):∀ s,s≤4→UpB (z0q p t.gap gs l s) (1200 * (s:Int))
 | 0,_=>by intro i hi;have:=hb i hi;show 0≤l.getD i 0∧l.getD i 0≤_;omega
 | s+1,hs=>by
  have ih:=z56 hC h40 hl hp hb s (by omega);have:=z55 (s:=((s+1:Nat):Int)) hC (by rw [z23];exact hl) hp ih (by omega) gs.length (Nat.le_refl _);intro i hi;have:=this i hi;rw [z0q];omega
def LeL (a b:List Int):Prop:=a.length=b.length∧∀ i,i < a.length→a.getD i 0≤b.getD i 0
theorem LeL.refl (a:List Int):LeL a a:=⟨rfl,fun _ _=>Int.le_refl _⟩
theorem LeL.trans {a b c:List Int} (h:LeL a b) (k:LeL b c):LeL a c:=⟨h.1.trans k.1,fun i hi=>Int.le_trans (h.2 i hi) (k.2 i (by rw [← h.1];exact hi))⟩
theorem LeL.sub {a b:List Int} (h:LeL a b) {c m:Nat} (hc:c+m≤a.length):LeL (z0d a c m) (z0d b c m):=by
 have hb:c+m≤b.length:=(by rw [← h.1];exact hc);refine ⟨by rw [z0Z hc,z0Z hb],fun i hi=>?_⟩;rw [z0Z hc] at hi;rw [z3i hc hi,z3i hb hi];exact h.2 _ (by omega)
def zbg (l:List Int) (gap:Int) (x:GC):Int:=(z0d l x.col.toNat x.cols.toNat).sum+gap * (x.cols - 1)
theorem z7B {a:Int} (h:-9223372036854775808≤a∧a≤9223372036854775807):IntKind.i64.wrap a=a:=by rw [IntKind.wrap_i64];omega
theorem z6N {cn m C:Nat} (h:cn+(m+1)≤C) (hC:C≤88):(cn:Int)≤(cn:Int)+((m:Int)+1)∧(cn:Int)+((m:Int)+1)≤(C:Int)∧(0:Int)≤(cn:Int)+((m:Int)+1)∧((cn:Int)+((m:Int)+1)).toNat=cn+(m+1)∧cn+(m+1) - cn=m+1∧¬ C=cn∧wrap64 ((cn:Int)+((m:Int)+1))=(cn:Int)+((m:Int)+1)∧IntKind.i64.wrap ((cn:Int)+((m:Int)+1))=(cn:Int)+((m:Int)+1):=by
 have e:-9223372036854775808≤(cn:Int)+((m:Int)+1)∧(cn:Int)+((m:Int)+1)≤9223372036854775807:=(by omega);exact ⟨by omega,by omega,by omega,by omega,by omega,by omega,z78 e,z7B e⟩
def zO (n:Nat):List Int:=List.replicate n 0
theorem z7h (n:Nat):UpB (zO n) 0:=by
 intro i hi;simp [zO] at hi;simp [zO,List.getD,hi]
def Ws (w:World) (z gb:Nat) (ac ar:Option Addr) (cc cr:Nat) (t:T) (ag:Option Addr) (cg:Nat) (W:World):Prop :=
 Below w.heap.size w W∧TA W z ac ar cc cr t∧W.heap[w.heap.size]?=some (.cells #[.slice ac t.cols.length cc,.int .i64 t.head,.int .i64 t.foot,.slice ar t.rows.length cr,.int .i64 t.gap] 26)∧z1M W w.heap.size (.slice ag (gOf t).cells.length cg) (gOf t).cells∧W.heap[gb]?=some (.cells #[.int .i64 (gOf t).rows,.int .i64 (gOf t).cols,.slice ag (gOf t).cells.length cg] 98)
theorem Ws.kept {w W W':World} {z gb:Nat} {ac ar ag:Option Addr} {cc cr cg:Nat} {t:T} (h:Ws w z gb ac ar cc cr t ag cg W) (hb:Below W.heap.size W W'):Ws w z gb ac ar cc cr t ag cg W' :=
 ⟨h.1.trans (hb.mono h.1.size),h.2.1.kept hb,(hb.block _ (bL h.2.2.1)).trans h.2.2.1,h.2.2.2.1.kept hb,(hb.block gb (bL h.2.2.2.2)).trans h.2.2.2.2⟩
theorem Ws.at {w W:World} {z gb:Nat} {ac ar ag:Option Addr} {cc cr cg:Nat} {t:T} (h:Ws w z gb ac ar cc cr t ag cg W):W.cell? ⟨w.heap.size,3,none⟩=some (.slice ar t.rows.length cr)∧W.cell? ⟨w.heap.size,4,none⟩=some (.int .i64 t.gap)∧W.cell? ⟨gb,1,none⟩=some (.int .i64 (gOf t).cols)∧W.cell? ⟨gb,2,none⟩=some (.slice ag (gOf t).cells.length cg) :=
 ⟨zc h.2.2.1,zc h.2.2.1,zc h.2.2.2.2,zc h.2.2.2.2⟩
def z14 (ps:List (Int × Int)) (l:List Int):Nat→List Int
 | 0=>l
 | k+1=>if (sd ps k).1=1 then (z14 ps l k).set k (max ((z14 ps l k).getD k 0) (sd ps k).2) else z14 ps l k
theorem z15 (ps:List (Int × Int)) (l:List Int):∀ k,(z14 ps l k).length=l.length
 | 0=>rfl
 | k+1=>by rw [z14];split;rw [List.length_set];exact z15 ps l k;exact z15 ps l k
theorem z1C (ps:List (Int × Int)) (l:List Int) {i:Nat}:∀ k,k≤i→(z14 ps l k).getD i 0=l.getD i 0
 | 0,_=>rfl
 | k+1,h=>by
  rw [z14]
  split
  ·rw [← z1C ps l (i:=i) k (by omega)];simp only [List.getD,List.getElem?_set_ne (show k ≠ i by omega)]
  ·exact z1C ps l k (by omega)
def z6p (ps:List (Int × Int)) (k:Nat) (x:Int):Int:=if (sd ps k).1=1 then max x (sd ps k).2 else x
theorem z6q (ps:List (Int × Int)) (l:List Int) {i:Nat} (hi:i < l.length):∀ k,i < k→(z14 ps l k).getD i 0=z6p ps i (l.getD i 0)
 | k+1,h=>by
  rw [z14];by_cases e:i=k
  ·subst e;rw [z1C ps l i (Nat.le_refl _)];have hl:i < (z14 ps l i).length:=(by rw [z15];exact hi);unfold z6p
   split
   ·simp [List.getD,hl]
   ·exact z1C ps l i (Nat.le_refl _)
  ·rw [← z6q ps l hi k (by omega)]
   split
   ·simp only [List.getD,List.getElem?_set_ne (show k ≠ i by omega)]
   ·rfl
def z0M (t:T) (x:GC):Int:=(z06 (z0j (zP t x)):Nat)
def z1Q (t:T):Nat:=(gOf t).cols.toNat
def z1L (t:T) (p:GC→Int):List Int:=z0q p t.gap (gOf t).cells (zO (z1Q t)) 4
def z0U (t:T):List Int:=z14 t.cols (z1L t (z0M t)) (z1Q t)
theorem z3G (t:T) (p:GC→Int):(z1L t p).length=z1Q t:=by unfold z1L;rw [z23];simp [zO]
theorem z3o (t:T):(z0U t).length=z1Q t:=by unfold z0U;rw [z15,z3G]
theorem z58 {t:T} {C:Nat} (h:(gOf t).cols=C):z1Q t=C:=by unfold z1Q;rw [h];exact Int.toNat_natCast C
theorem z9g {t:T} (hD:z0Q t) {p:GC→Int} (hp:∀ x,p x≤30):UpB (z1L t p) 4800:=by
 obtain ⟨h40,C,hgc,hC,hcel⟩:=z4I hD;unfold z1L;rw [z58 hgc];exact z56 hcel h40 (by simp [zO]) hp (z7h _) 4 (by omega)
theorem z9h {t:T} {k:Nat} (hk:k < z1Q t):(sd t.cols k).1=1→0≤(sd t.cols k).2∧(sd t.cols k).2≤60:=by
 intro h1
 cases h:zq t with
 | false=>unfold z1Q at hk;rw [z8x h] at hk;exact absurd hk (Nat.not_lt_zero _)
 | true =>
  simp only [zq,z0Y,Bool.and_eq_true,List.all_eq_true] at h;by_cases hl:k < t.cols.length
  ·rw [z8y hl] at h1 ⊢;have:=h.2.2.2.1.2 (t.cols.getD k (0,0)) (by rw [show t.cols.getD k (0,0)=t.cols[k] by simp [List.getD,hl]];exact List.getElem_mem hl);simp only [z13,decide_eq_true_eq] at this;omega
  ·rw [z7C (z1k (by omega))] at h1;simp at h1
theorem z7G {t:T} {k:Nat} (hk:k < z1Q t):(z0U t).getD k 0=z6p t.cols k ((z1L t (z0M t)).getD k 0):=by
 unfold z0U;exact z6q _ _ (by rw [z3G];exact hk) _ hk
theorem z3H (t:T) (x:GC):0≤z0M t x∧z0M t x≤30:=by
 unfold z0M;have:=z3n (z0j (zP t x));omega
def plC (x:C):C:={ x with c:=1,r:=1 }
def plR (r:R):R:={ r with cells:=r.cells.map plC }
def plT (t:T):T:={ t with cols:=[],rows:=t.rows.map plR }
theorem z7i (t:T) (i:Nat):(plT t).rows.getD i dR=plR (t.rows.getD i dR):=by
 show (t.rows.map plR).getD i dR=plR (t.rows.getD i dR);by_cases h:i < t.rows.length
 ·simp [List.getD,h]
 ·simp [List.getD,h,plR,dR]
theorem z3I {t:T} (h:z0Q t):z0Q (plT t):=by
 refine ⟨by show (t.rows.map plR).length≤9;rw [List.length_map];exact h.rows,Nat.zero_le _,h.head,h.foot,h.gap,fun r hr x hx=>?_,?_⟩
 ·obtain ⟨r0,hr0,rfl⟩:=List.mem_map.1 hr;obtain ⟨x0,hx0,rfl⟩:=List.mem_map.1 hx;exact ⟨(h.cells r0 hr0 x0 hx0).1,.inl (by show (1:Int)≤3;omega)⟩
 ·obtain ⟨k,hk⟩:=h.few;refine ⟨k,fun i=>?_⟩;rw [z7i];show ((t.rows.getD i dR).cells.map plC).length≤_;rw [List.length_map];exact hk i
theorem zam {t:T} (h:zq t=true):zq (plT t)=true:=by
 unfold zq at h ⊢;simp only [Bool.and_eq_true] at h ⊢;obtain ⟨h1,h2,h3,h4,h5⟩:=h;have hl:(plT t).rows.length=t.rows.length:=(by show (t.rows.map plR).length=_;rw [List.length_map]);refine ⟨by rw [hl];exact h1,by rw [hl];exact h2,h3,rfl,?_⟩;rw [List.all_eq_true] at h5 ⊢;intro r hr;obtain ⟨r0,hr0,rfl⟩:=List.mem_map.1 hr;have h6:=h5 r0 hr0;unfold z0z at h6 ⊢;rw [Bool.and_eq_true] at h6 ⊢;refine ⟨by show decide ((r0.cells.map plC).length≤5)=true;rw [List.length_map];exact h6.1,?_⟩;have h7:=h6.2;rw [List.all_eq_true] at h7 ⊢;intro x hx;obtain ⟨x0,hx0,rfl⟩:=List.mem_map.1 hx;have h8:=h7 x0 hx0;simp only [cB,zz,Bool.and_eq_true] at h8 ⊢;exact ⟨h8.1,rfl,rfl,h8.2.2.2⟩
structure PlG (r i:Nat) (gs:List GC):Prop where
 each:∀ a ∈ gs,a.rows=1∧a.cols=1∧a.col=a.ins∧0≤a.ins∧(a.row < r∨a.row=r∧a.ins < i)
 all:∀ j:Nat,j < i→∃ a ∈ gs,a.row=r∧a.ins=j
theorem z8A {gs:List GC} {r i:Nat} (h:PlG r i gs) (hi:i < 1000) {e:Int} (he:(r:Int) < e) {x:C} (hx:x.c=1∧x.r=1):z0b gs r i e x=⟨r,i,1,1,i⟩:=by
 have hb:z1u r i e x=⟨r,0,1,1,i⟩:=by
  unfold z1u;rw [hx.1,hx.2,show min (1:Int) (e - r)=1 by omega]
 have hfree:z0F gs (z08 ⟨r,0,1,1,i⟩ ((i:Nat):Int))=true:=by
  unfold z0F;rw [List.all_eq_true];intro a ha;obtain ⟨h1,h2,h3,h4,h5⟩:=h.each a ha
  cases hm:z1x a (z08 ⟨r,0,1,1,i⟩ ((i:Nat):Int)) with
  | false=>rfl
  | true =>
   exfalso
   unfold z1x z08 at hm;simp only [Bool.and_eq_true,decide_eq_true_eq] at hm;omega
 obtain ⟨f1,f2,f3⟩:=z69 hi hfree
 have hF:z21 gs ⟨r,0,1,1,i⟩=i:=by
  rcases Nat.lt_or_eq_of_le f1 with hlt | he
  ·exfalso
   obtain ⟨a,ha,a1,a2⟩:=h.all _ hlt;obtain ⟨h1,h2,h3,h4,h5⟩:=h.each a ha;unfold z0F at f2;have:=List.all_eq_true.1 f2 a ha
   have hm:z1x a (z08 ⟨r,0,1,1,i⟩ ((z21 gs ⟨r,0,1,1,i⟩:Nat):Int))=true:=by
    unfold z1x z08;simp only [Bool.and_eq_true,decide_eq_true_eq];omega
   rw [hm] at this
   cases this
  ·exact he
 unfold z0b;rw [hb,hF];rfl
theorem z9i {gs:List GC} {r i:Nat} (h:PlG r i gs):PlG r (i+1) (gs ++ [⟨r,i,1,1,i⟩]):=by
 refine ⟨fun a ha=>?_,fun j hj=>?_⟩
 ·rcases List.mem_append.1 ha with h1 | h1
  ·obtain ⟨e1,e2,e3,e4,e5⟩:=h.each a h1;exact ⟨e1,e2,e3,e4,by omega⟩
  ·rw [List.mem_singleton] at h1;subst h1;exact ⟨rfl,rfl,rfl,by show (0:Int)≤(i:Int);omega,.inr ⟨rfl,by show (i:Int) < ((i+1:Nat):Int);omega⟩⟩
 ·rcases Nat.lt_or_eq_of_le (Nat.lt_succ_iff.1 hj) with h1 | rfl
  ·obtain ⟨a,ha,e⟩:=h.all j h1;exact ⟨a,List.mem_append_left _ ha,e⟩
  ·exact ⟨_,List.mem_append_right _ (List.mem_singleton.2 rfl),rfl,rfl⟩
def z4K (r n:Nat):List GC:=(List.range n).map fun j:Nat=>⟨r,j,1,1,j⟩
theorem z7H (r n:Nat):z4K r (n+1)=z4K r n ++ [⟨r,n,1,1,n⟩]:=by simp [z4K,List.range_succ]
theorem z4h {t:T} (hl:Low t) (hp:∀ r ∈ t.rows,∀ x ∈ r.cells,x.c=1∧x.r=1) {r:Nat} (hr:r < t.rows.length) {gs:List GC} (h:PlG r 0 gs) (h5:(t.rows.getD r dR).cells.length≤5):∀ i,i≤(t.rows.getD r dR).cells.length →
  PlG r i (z0w (zK t r) r (t.rows.getD r dR).cells gs i)∧z0w (zK t r) r (t.rows.getD r dR).cells gs i=gs ++ z4K r i
 | 0,_=>⟨h,by simp [z0w,z4K]⟩
 | i+1,hi=>by
  obtain ⟨h1,h2⟩:=z4h hl hp hr h h5 i (by omega);have hm:(t.rows.getD r dR) ∈ t.rows:=z1f (d:=dR) hr;have hx:(t.rows.getD r dR).cells.getD i dC ∈ (t.rows.getD r dR).cells:=z1f (d:=dC) (by omega);have hpl:=z8A h1 (by omega) (z2J hl hr).1 (hp _ hm _ hx);rw [z0w,hpl];exact ⟨z9i h1,by rw [h2,z7H,List.append_assoc]⟩
theorem z9Z {r i:Nat} {gs:List GC} (h:PlG r i gs):PlG (r+1) 0 gs:=by
 refine ⟨fun a ha=>?_,fun j hj=>absurd hj (Nat.not_lt_zero _)⟩;obtain ⟨e1,e2,e3,e4,e5⟩:=h.each a ha;exact ⟨e1,e2,e3,e4,by omega⟩
theorem z3J {t:T} (hl:Low t) (hp:∀ r ∈ t.rows,∀ x ∈ r.cells,x.c=1∧x.r=1) (h5:∀ r,(t.rows.getD r dR).cells.length≤5):∀ r,r≤t.rows.length→PlG r 0 (zA t r)
 | 0,_=>⟨fun a ha=>absurd ha (List.not_mem_nil),fun j hj=>absurd hj (Nat.not_lt_zero _)⟩
 | r+1,hr=>z9Z (z4h hl hp (by omega) (z3J hl hp h5 r (by omega)) (h5 r) _ (Nat.le_refl _)).1
def zb3 (gs:List GC) (k:Nat):Int:=(gs.take k).foldl (fun m a=>max m (a.ins+1)) 1
theorem z4L {cs cs':List C} (h:∀ i,(cs'.getD i dC).c=(cs.getD i dC).c∧(cs'.getD i dC).r=(cs.getD i dC).r) (e:Int) (r:Nat) (gs:List GC):∀ i,z0w e r cs' gs i=z0w e r cs gs i
 | 0=>rfl
 | i+1=>by
  simp only [z0w,z4L h e r gs i];have:z1u r i e (cs'.getD i dC)=z1u r i e (cs.getD i dC):=(by rw [z1u,z1u,(h i).1,(h i).2]);rw [z0b,z0b,this]
theorem z46 {t t':T} (hh:t'.head=t.head) (hf:t'.foot=t.foot) (hl:t'.rows.length=t.rows.length) (hc:∀ r,(t'.rows.getD r dR).cells.length=(t.rows.getD r dR).cells.length) (h:∀ r i,((t'.rows.getD r dR).cells.getD i dC).c=((t.rows.getD r dR).cells.getD i dC).c∧((t'.rows.getD r dR).cells.getD i dC).r=((t.rows.getD r dR).cells.getD i dC).r):∀ r,zA t' r=zA t r
 | 0=>rfl
 | r+1=>by
  have he:zK t' r=zK t r:=(by rw [zK,zK,hh,hf,hl]);simp only [zA,z46 hh hf hl hc h r,he,hc r,z4L (h r)]
def txT (t:T) (r a:Nat) (s:ByteArray):T:=z0W t r ((t.rows.getD r dR).cells.set a (txC ((t.rows.getD r dR).cells.getD a dC) s))
theorem z37 (t:T) (r a:Nat) (s:ByteArray):(txT t r a s).rows.length=t.rows.length:=z7J _ _ _
theorem z5a (t:T) (r a:Nat) (s:ByteArray) (q:Nat):((txT t r a s).rows.getD q dR).cells=if q=r∧r < t.rows.length then (t.rows.getD r dR).cells.set a (txC ((t.rows.getD r dR).cells.getD a dC) s) else (t.rows.getD q dR).cells:=by
 unfold txT z0W;show ((t.rows.set r _).getD q dR).cells=_;rw [List.getD_eq_getElem?_getD,List.getElem?_set]
 split
 ·rename_i h
  subst h;by_cases hr:r < t.rows.length
  ·rw [if_pos hr,if_pos ⟨rfl,hr⟩];rfl
  ·rw [if_neg hr,if_neg (by simp [hr]),List.getD_eq_getElem?_getD,List.getElem?_eq_none (by omega)]
 ·rename_i h
  rw [if_neg (by omega),List.getD_eq_getElem?_getD]
theorem z9k (t:T) (r a:Nat) (s:ByteArray) (q i:Nat):(((txT t r a s).rows.getD q dR).cells.getD i dC).c=((t.rows.getD q dR).cells.getD i dC).c∧(((txT t r a s).rows.getD q dR).cells.getD i dC).r=((t.rows.getD q dR).cells.getD i dC).r:=by
 rw [z5a]
 split
 ·rename_i h
  obtain ⟨rfl,_⟩:=h;rw [List.getD_eq_getElem?_getD,List.getElem?_set]
  split
  ·rename_i h
   subst h
   split
   ·exact ⟨rfl,rfl⟩
   ·rw [List.getD_eq_getElem?_getD,List.getElem?_eq_none (by omega)];exact ⟨rfl,rfl⟩
  ·rw [List.getD_eq_getElem?_getD];exact ⟨rfl,rfl⟩
 ·exact ⟨rfl,rfl⟩
theorem z5x (t:T) (r a:Nat) (s:ByteArray) (q:Nat):((txT t r a s).rows.getD q dR).cells.length=(t.rows.getD q dR).cells.length:=by
 rw [z5a]
 split
 ·rename_i h
  rw [List.length_set,h.1]
 ·rfl
theorem z9l (t:T) (r a:Nat) (s:ByteArray):zU (txT t r a s)=zU t:=by
 unfold zU;rw [z37];exact z46 (t:=t) (t':=txT t r a s) rfl rfl (z37 _ _ _ _) (z5x t r a s) (z9k t r a s) _
theorem zap {t:T} (hk:zq t=true) {r a:Nat} (hr:r < t.rows.length) (ha:a < (t.rows.getD r dR).cells.length) {s:ByteArray} (hs:zD s=true):zq (txT t r a s)=true:=by
 have hm:t.rows.getD r dR ∈ t.rows:=(by rw [zx dR hr];exact List.getElem_mem hr);simp only [zq,Bool.and_eq_true,List.all_eq_true] at hk ⊢;rw [z37];refine ⟨hk.1,hk.2.1,hk.2.2.1,hk.2.2.2.1,fun q hq=>?_⟩
 rcases List.mem_or_eq_of_mem_set hq with hq | rfl
 ·exact hk.2.2.2.2 q hq
 ·have h0:=hk.2.2.2.2 _ hm;simp only [z0z,Bool.and_eq_true,decide_eq_true_eq,List.all_eq_true] at h0 ⊢;refine ⟨by rw [List.length_set];exact h0.1,fun y hy=>?_⟩
  rcases List.mem_or_eq_of_mem_set hy with hy | rfl
  ·exact h0.2 y hy
  ·have h1:=h0.2 _ (List.getElem_mem ha);rw [← zx dC ha] at h1;simp only [cB,zz,Bool.and_eq_true] at h1 ⊢;exact ⟨hs,h1.2⟩
theorem za0 {t:T} (hk:zq t=true) {r a:Nat} (hr:r < t.rows.length) (ha:a < (t.rows.getD r dR).cells.length) {s:ByteArray} (hs:zD s=true):gOf (txT t r a s)=gOf t:=by
 rw [gOf,gOf,if_pos (zap hk hr ha hs),if_pos hk,z9l,z37];rfl
theorem z8C {t:T} (hD:z0Q t) {r a:Nat} (ha:a < (t.rows.getD r dR).cells.length) {s:ByteArray} (hs:s.size≤61):z0Q (txT t r a s):=by
 have hr:r < t.rows.length:=by
  rcases Nat.lt_or_ge r t.rows.length with h | h
  ·exact h
  ·rw [List.getD_eq_getElem?_getD,List.getElem?_eq_none h] at ha;exact absurd ha (by simp [dR])
 have hm:t.rows.getD r dR ∈ t.rows:=(by rw [zx dR hr];exact List.getElem_mem hr);refine ⟨by rw [z37];exact hD.rows,hD.cols,hD.head,hD.foot,hD.gap,fun q hq x hx=>?_,?_⟩
 ·rcases List.mem_or_eq_of_mem_set hq with hq | rfl
  ·exact hD.cells q hq x hx
  ·rcases List.mem_or_eq_of_mem_set hx with hx | rfl
   ·exact hD.cells _ hm x hx
   ·have h1:=hD.cells _ hm _ (List.getElem_mem ha);rw [← zx dC ha] at h1;exact ⟨hs,h1.2⟩
 ·obtain ⟨k,hk⟩:=hD.few;exact ⟨k,fun i=>by rw [z5x];exact hk i⟩
theorem z7l {l:List Int} (h:l.length=1):l.sum=l.getD 0 0:=by
 match l,h with
 | [y],_=>simp
theorem z6u {l:List Int} {c:Nat} {gap need:Int} (hb:UpB l 50000) (hc:c < l.length) (hg:0≤gap∧gap≤3) (hn:need≤30) (j:Nat):(z1H l c 1 gap need).getD j 0=if j=c then max (l.getD c 0) need else l.getD j 0:=by
 have hlen:=z0Z (l:=l) (c:=c) (m:=1) (by omega);have hget:=z3i (l:=l) (c:=c) (m:=1) (k:=0) (by omega) (by omega)
 have hlk:z0h l c 1 gap need=need - l.getD c 0:=by
  unfold z0h;rw [z7l hlen,hget];simp
 unfold z1H;by_cases h:z0h l c 1 gap need≤0
 ·rw [if_pos h];by_cases e:j=c
  ·rw [if_pos e,e];omega
  ·rw [if_neg e]
 ·rw [if_neg h];obtain ⟨h1,_⟩:=z52 hb (by omega) ⟨by omega,by omega⟩ hg hn (by omega:0 < z0h l c 1 gap need);have hss:=z5l h1 (by omega);rw [z7l (by rw [z2x h1];exact hlen)] at hss;by_cases e:j=c
  ·rw [if_pos e,e];have:=z4d l c (z0c (z0h l c 1 gap need) (z0d l c 1)) (j:=0) 1 (by omega) (by omega);rw [Nat.add_zero] at this;rw [this,hss];omega
  ·rw [if_neg e];exact z2S _ _ _ 1 (fun i hi=>by omega)
theorem z2V {p:GC→Int} {gap s:Int} {gs:List GC} {l:List Int} (h:∀ k,k < gs.length→(gs.getD k dG).cols=1) (hs:s ≠ 1):∀ k,k≤gs.length→zN p gap s gs l k=l
 | 0,_=>rfl
 | k+1,hk=>by
  rw [zN,if_neg (fun e=>hs (by rw [← e,h k (by omega)]))];exact z2V h hs k (by omega)
theorem z7K {p:GC→Int} {gap:Int} {gs:List GC} {l:List Int} (h:∀ k,k < gs.length→(gs.getD k dG).cols=1):z0q p gap gs l 4=zN p gap 1 gs l gs.length:=by
 rw [z0q,z2V h (by decide) _ (Nat.le_refl _),z0q,z2V h (by decide) _ (Nat.le_refl _),z0q,z2V h (by decide) _ (Nat.le_refl _),z0q,z0q];rfl
theorem z6v {t:T} {C a:Nat} {gs:List GC} {p p':GC→Int} {gap:Int} (hg:0≤gap∧gap≤3) (hC:∀ k,k < gs.length→Cel t C (gs.getD k dG)) (h1:∀ k,k < gs.length→(gs.getD k dG).cols=1) (hp:∀ x,p x≤30) (hp':∀ x,p' x≤30) (he:∀ k,k < gs.length→(gs.getD k dG).col ≠ a→p' (gs.getD k dG)=p (gs.getD k dG)) :
  ∀ k,k≤gs.length→(∀ j,0≤(zN p gap 1 gs (zO C) k).getD j 0∧(zN p gap 1 gs (zO C) k).getD j 0≤30)∧(∀ j,0≤(zN p' gap 1 gs (zO C) k).getD j 0∧(zN p' gap 1 gs (zO C) k).getD j 0≤30)∧(∀ j,j ≠ a→(zN p' gap 1 gs (zO C) k).getD j 0=(zN p gap 1 gs (zO C) k).getD j 0)∧∀ i,i < k→(gs.getD i dG).col=a→p' (gs.getD i dG)=30→(zN p' gap 1 gs (zO C) k).getD a 0=30
 | 0,_=>by
  have hz:∀ j,(zO C).getD j 0=0:=fun j=>by
   by_cases h:j < C
   ·simp [zO,List.getD,h]
   ·simp [zO,List.getD,h]
  refine ⟨fun j=>?_,fun j=>?_,fun j _=>rfl,fun i hi=>absurd hi (Nat.not_lt_zero i)⟩
  ·rw [zN,hz];omega
  ·rw [zN,hz];omega
 | k+1,hk=>by
  obtain ⟨b1,b2,b3,b4⟩:=z6v hg hC h1 hp hp' he k (by omega);have hx:=hC k (by omega);have hx1:=h1 k (by omega);have hek:=he k (by omega);obtain ⟨_,_,cn,mn,_,_,e3,e4,_,_,h3,_,_⟩:=hx.ex;have hm1:(gs.getD k dG).cols.toNat=1:=(by omega);have hcn:(gs.getD k dG).col.toNat=cn:=(by omega);have hl:(zN p gap 1 gs (zO C) k).length=C:=(by rw [z1p];simp [zO]);have hl':(zN p' gap 1 gs (zO C) k).length=C:=(by rw [z1p];simp [zO]);have w1:=fun j=>z6u (l:=zN p gap 1 gs (zO C) k) (c:=cn) (gap:=gap) (need:=p (gs.getD k dG)) (fun i _=>by have:=b1 i;omega) (by omega) hg (hp _) j;have w2:=fun j=>z6u (l:=zN p' gap 1 gs (zO C) k) (c:=cn) (gap:=gap) (need:=p' (gs.getD k dG)) (fun i _=>by have:=b2 i;omega) (by omega) hg (hp' _) j;rw [zN,zN,if_pos hx1,if_pos hx1,hm1,hcn];have q1:=hp (gs.getD k dG);have q2:=hp' (gs.getD k dG);refine ⟨fun j=>?_,fun j=>?_,fun j hj=>?_,fun i hi hia h30=>?_⟩
  ·rw [w1];have:=b1 j;have:=b1 cn
   split <;> omega
  ·rw [w2];have:=b2 j;have:=b2 cn
   split <;> omega
  ·rw [w1,w2]
   split
   ·rename_i e
    subst e;rw [b3 _ hj,hek (by omega)]
   ·exact b3 j hj
  ·rw [w2];have:=b2 a
   rcases Nat.lt_or_eq_of_le (Nat.lt_succ_iff.1 hi) with hlt | rfl
   ·rw [b4 i hlt hia h30]
    split
    ·rename_i e
     rw [← e,b4 i hlt hia h30];omega
    ·rfl
   ·rw [if_pos (by omega),h30];have:=b2 cn;omega
theorem z5y {e:Int} {r:Nat} {cs:List C} {gs:List GC} {x:GC} (h:x ∈ gs):∀ i,x ∈ z0w e r cs gs i
 | 0=>h
 | i+1=>by
  rw [z0w];exact List.mem_append.2 (.inl (z5y h i))
theorem z4M {t:T} {r:Nat} {x:GC} (h:x ∈ zA t r):∀ d,x ∈ zA t (r+d)
 | 0=>h
 | d+1=>by
  rw [← Nat.add_assoc,zA];exact z5y (z4M h d) _
theorem z8D {t:T}:∀ r ∈ (plT t).rows,∀ x ∈ r.cells,x.c=1∧x.r=1:=fun r hr x hx=>by
 obtain ⟨r0,_,rfl⟩:=List.mem_map.1 hr;obtain ⟨x0,_,rfl⟩:=List.mem_map.1 hx;exact ⟨rfl,rfl⟩
theorem z4j {t:T} (h:zq t=true) (r:Nat):(t.rows.getD r dR).cells.length≤5:=by
 by_cases hr:r < t.rows.length
 ·simp only [zq,Bool.and_eq_true,List.all_eq_true] at h;have h0:=h.2.2.2.2 _ (List.getElem_mem hr);simp only [z0z,Bool.and_eq_true,decide_eq_true_eq] at h0;rw [show t.rows.getD r dR=t.rows[r] by simp [List.getD,hr]];exact h0.1
 ·rw [show t.rows.getD r dR=dR by simp [List.getD,hr]];exact Nat.zero_le _
theorem z8E {t:T} (hD:z0Q t) (hok:zq t=true) (hp1:∀ r ∈ t.rows,∀ x ∈ r.cells,x.c=1∧x.r=1) (hcs:t.cols=[]) {r a:Nat} (hr:r < t.rows.length) (ha:a < (t.rows.getD r dR).cells.length) {s:ByteArray} (hs:zD s=true) (h30:z06 (z0j s)=30) :
  (z0U (txT t r a s)).length=(z0U t).length∧∀ k,k < (z0U t).length→(k=a→(z0U (txT t r a s)).getD k 0=30)∧(k ≠ a→(z0U (txT t r a s)).getD k 0=(z0U t).getD k 0):=by
 have hG:=za0 hok hr ha hs;have hN:z1Q (txT t r a s)=z1Q t:=(by unfold z1Q;rw [hG]);obtain ⟨_,C,hgc,_,hcel⟩:=z4I hD;have hl:=z4G hok hD;have hP:=z3J hl hp1 (z4j hok) t.rows.length (Nat.le_refl _);have hgo:(gOf t).cells=zU t:=(by rw [z8w hok])
 have hmem:∀ k,k < (gOf t).cells.length→(gOf t).cells.getD k dG ∈ zA t t.rows.length:=fun k hk=>by
  have e:(gOf t).cells.getD k dG ∈ (gOf t).cells:=by
   rw [show (gOf t).cells.getD k dG=(gOf t).cells[k] by simp [List.getD,hk]];exact List.getElem_mem hk
  have e2:∀ x ∈ (gOf t).cells,x ∈ zA t t.rows.length:=fun x hx=>by rw [hgo] at hx;exact hx
  exact e2 _ e
 have h1:∀ k,k < (gOf t).cells.length→((gOf t).cells.getD k dG).cols=1:=fun k hk=>(hP.each _ (hmem k hk)).2.1;have hci:∀ k,k < (gOf t).cells.length→((gOf t).cells.getD k dG).col=((gOf t).cells.getD k dG).ins:=fun k hk=>(hP.each _ (hmem k hk)).2.2.1
 have hgap:0≤t.gap∧t.gap≤3:=by
  have h:=hok;simp only [zq,inB,Bool.and_eq_true,decide_eq_true_eq] at h;exact h.2.2.1
 have htx:∀ x:GC,0≤x.row→0≤x.ins→(x.ins ≠ (a:Int)→z0M (txT t r a s) x=z0M t x)∧(x.row=(r:Int)→x.ins=(a:Int)→z0M (txT t r a s) x=30):=fun x hx0 hx1=>by
  unfold z0M zP;rw [z5a];refine ⟨fun hne=>?_,fun e1 e2=>?_⟩
  ·split
   ·rename_i h
    rw [List.getD_eq_getElem?_getD,List.getElem?_set_ne (by omega),h.1,← List.getD_eq_getElem?_getD]
   ·rfl
  ·rw [if_pos ⟨by omega,hr⟩,show x.ins.toNat=a by omega,List.getD_eq_getElem?_getD,List.getElem?_set_self (by exact ha)];show ((z06 (z0j s):Nat):Int)=30;rw [h30];rfl
 have hnn:∀ k,k < (gOf t).cells.length→0≤((gOf t).cells.getD k dG).row∧0≤((gOf t).cells.getD k dG).ins:=fun k hk=>by
  obtain ⟨_,_,_,_,e1,e2,_⟩:=(hcel k hk).ex;omega
 have hT:=z6v (p:=z0M t) (p':=z0M (txT t r a s)) (a:=a) hgap hcel h1 (fun x=>(z3H _ x).2) (fun x=>(z3H _ x).2) (fun k hk hne=>(htx _ (hnn k hk).1 (hnn k hk).2).1 (by rw [← hci k hk];exact hne)) (gOf t).cells.length (Nat.le_refl _)
 have hgt:∀ (u:T),u.cols=[]→z1Q u=z1Q t→(gOf u).cells=(gOf t).cells→u.gap=t.gap→∀ k,k < z1Q t→(z0U u).getD k 0=(zN (z0M u) t.gap 1 (gOf t).cells (zO C) (gOf t).cells.length).getD k 0:=fun u hu hn hc hgp k hk=>by
  rw [z7G (by rw [hn];exact hk),hu]
  have e:z6p [] k ((z1L u (z0M u)).getD k 0)=(z1L u (z0M u)).getD k 0:=by
   unfold z6p;rw [z7C (z1k (by simp;omega))];rfl
  rw [e];unfold z1L;rw [hn,hc,hgp,z7K h1,z58 hgc]
 obtain ⟨x,hx,hxr,hxi⟩:∃ x ∈ zA t t.rows.length,x.row=(r:Int)∧x.ins=(a:Int):=by
  obtain ⟨x,hx,e1,e2⟩:=(z4h hl hp1 hr (z3J hl hp1 (z4j hok) r (by omega)) (z4j hok r) _ (Nat.le_refl _)).1.all a ha;have:=z4M (t:=t) (r:=r+1) (x:=x) (by rw [zA];exact hx) (t.rows.length - (r+1));rw [show r+1+(t.rows.length - (r+1))=t.rows.length by omega] at this;exact ⟨x,this,e1,e2⟩
 have hxg:x ∈ (gOf t).cells:=(by rw [hgo];exact hx);obtain ⟨i,hi,hix⟩:=List.mem_iff_getElem.1 hxg;have hxD:(gOf t).cells.getD i dG=x:=(by rw [← hix];simp [List.getD,hi]);refine ⟨by rw [z3o,z3o,hN],fun k hk=>?_⟩;rw [z3o] at hk;rw [hgt t hcs rfl rfl rfl k hk,hgt (txT t r a s) hcs hN (by rw [hG]) rfl k hk];refine ⟨fun e=>?_,fun e=>hT.2.2.1 k e⟩;rw [e];refine hT.2.2.2 i hi ?_ ?_
 ·rw [hci i hi,hxD,hxi]
 ·rw [hxD];exact (htx x (by omega) (by omega)).2 hxr hxi
end
end Go.Proofs.Ytggmjiddadjilam
