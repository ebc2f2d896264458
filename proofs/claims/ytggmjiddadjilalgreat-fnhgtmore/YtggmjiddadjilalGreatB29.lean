/-
  PROVED HERE: where each cell of a drawn table's grid stands: in its row, behind the one ahead of it, at the first column at which it is free; the grid is ok; it has as many cells as the table. Also: 9 more texts of the same proof.
-/
import Derived.Test.YtggmjiddadjilalGreatB10
import Derived.Test.YtggmjiddadjilalGreatB20
set_option maxRecDepth 1000000
set_option maxHeartbeats 40000000
namespace Go.Proofs.YtggmjiddadjilalGreat
open Value (int)
open IntKind (i64)
section
theorem z4J {α:Type} {l:List α} {x d:α} {k:Nat} (h:k < l.length):(l ++ [x]).getD k d=l.getD k d:=by
 simp [List.getD,List.getElem?_append_left h]
theorem z2I {α:Type} {l:List α} {x d:α}:(l ++ [x]).getD l.length d=x:=by simp [List.getD]
theorem z65 {α:Type} {l:List α} {x:α} {k:Nat} (h:k<=l.length):(l ++ [x]).take k=l.take k:=by
 rw [List.take_append_of_le_length h]
theorem zax (gs:List GC) (r i:Nat) (e:Int) (x:C) (c:Int):z0A (z0F gs r i e x) c=z0A (z2w r i e x) c:=by simp only [z0F,z0A]
theorem zcE (gs:List GC) (r i:Nat) (e:Int) (x:C):(z0F gs r i e x).col=(z3j gs (z2w r i e x):Int):=by simp only [z0F,z0A]
structure z9G (t:T) (gs:List GC) (k:Nat):Prop where
 ex:∃ r j:Nat,r < t.rows.length/\j < (t.rows.getD r dR).cells.length/\gs.getD k dG=z0F (gs.take k) r j (z06 t r) ((t.rows.getD r dR).cells.getD j dC)
 free:z18 (gs.take k) (gs.getD k dG)=true
 first:∀ c:Nat,(c:Int) < (gs.getD k dG).col->z18 (gs.take k) (z0A (gs.getD k dG) c)=false
 after:0 < k->(gs.getD (k - 1) dG).row < (gs.getD k dG).row\/(gs.getD (k - 1) dG).row=(gs.getD k dG).row/\(gs.getD (k - 1) dG).ins+1=(gs.getD k dG).ins
theorem z9G.snoc {t:T} {gs:List GC} {k:Nat} (x:GC) (hk:k < gs.length) (h:z9G t gs k):z9G t (gs ++ [x]) k:=by
 have e1:(gs ++ [x]).getD k dG=gs.getD k dG:=z4J hk;have e2:(gs ++ [x]).take k=gs.take k:=z65 (by omega);have e3:(gs ++ [x]).getD (k - 1) dG=gs.getD (k - 1) dG:=z4J (by omega);refine ⟨?_,?_,?_,?_⟩
 ·rw [e1,e2];exact h.ex
 ·rw [e1,e2];exact h.free
 ·rw [e1,e2];exact h.first
 ·rw [e1,e3];exact h.after
structure z2f (t:T) (gs:List GC) (r i:Nat):Prop where
 part:z2G t gs r i
 laid:∀ k,k < gs.length->z9G t gs k
 last:0 < gs.length->(gs.getD (gs.length - 1) dG).row < r\/(gs.getD (gs.length - 1) dG).row=r/\(gs.getD (gs.length - 1) dG).ins+1=i
theorem z2f.next {t:T} {gs:List GC} {r i:Nat} (h:z2f t gs r i) (hl:Low t) (hr:r < t.rows.length) (hi:i < (t.rows.getD r dR).cells.length) :
  z2f t (gs ++ [z0F gs r i (z06 t r) ((t.rows.getD r dR).cells.getD i dC)]) r (i+1):=by
 obtain ⟨⟨h1,h2,h3,h4⟩,hp⟩:=h.part.next hl hr hi;refine ⟨hp,?_,?_⟩
 ·intro k hk;rw [List.length_append,List.length_singleton] at hk;by_cases hk2:k < gs.length
  ·exact (h.laid k hk2).snoc _ hk2
  ·obtain rfl:k=gs.length:=by omega
   have e2:∀ x:GC,(gs ++ [x]).take gs.length=gs:=fun x=>by rw [z65 (Nat.le_refl _),List.take_length]
   refine ⟨?_,?_,?_,?_⟩
   ·rw [z2I,e2];exact ⟨r,i,hr,hi,rfl⟩
   ·rw [z2I,e2];exact h2
   ·rw [z2I,e2];intro c hc;rw [zcE] at hc;rw [zax];exact h3 c (Int.ofNat_lt.1 hc)
   ·intro h0;rw [z2I,z4J (by omega)];exact h.last h0
 ·intro _;rw [List.length_append,List.length_singleton,Nat.add_sub_cancel,z2I];refine .inr ⟨rfl,?_⟩;show (i:Int)+1=((i+1:Nat):Int);omega
theorem z2f.zero (t:T):z2f t [] 0 0:=⟨z2G.zero t,fun _ hk=>absurd hk (Nat.not_lt_zero _),fun h=>absurd h (Nat.lt_irrefl _)⟩
theorem z2f.rowEnd {t:T} {gs:List GC} {r:Nat} (h:z2f t gs r (t.rows.getD r dR).cells.length):z2f t gs (r+1) 0:=by
 refine ⟨h.part.rowEnd,h.laid,fun h0=>.inl ?_⟩
 rcases h.last h0 with h1 | ⟨h1,_⟩ <;> omega
theorem z9H {t:T} (hl:Low t) {r:Nat} (hr:r < t.rows.length) (h:z2f t (z03 t r) r 0):∀ i,i<=(t.rows.getD r dR).cells.length->z2f t (z15 (z06 t r) r (t.rows.getD r dR).cells (z03 t r) i) r i
 | 0,_=>h
 | i+1,hi=>z2f.next (z9H hl hr h i (by omega)) hl hr (by omega)
theorem z8z {t:T} (hl:Low t):∀ r,r<=t.rows.length->z2f t (z03 t r) r 0
 | 0,_=>z2f.zero t
 | r+1,hr=>(z9H hl (by omega) (z8z hl r (by omega)) _ (Nat.le_refl _)).rowEnd
theorem zb9 {t:T} (hl:Low t) {k:Nat} (hk:k < (zN t).length):z9G t (zN t) k:=(z8z hl _ (Nat.le_refl _)).laid k hk
theorem z3Z {t:T} (hl:Low t) {a:GC} (ha:a ∈ zN t):z19 t.rows.length a:=((z63 hl _ (Nat.le_refl _)).stands a ha).1
theorem z59 (m:Int) (a:GC) (gs:List GC):z0v m (a :: gs)=z0v (max m (a.col+a.cols)) gs:=rfl
theorem z3b:∀ (gs:List GC) (m:Int),m<=z0v m gs
 | [],m=>Int.le_refl _
 | a :: gs,m=>by rw [z59];exact Int.le_trans (Int.le_max_left _ _) (z3b gs _)
theorem z7s:∀ {gs:List GC} {m:Int} {a:GC},a ∈ gs->a.col+a.cols<=z0v m gs
 | b :: gs,m,a,h=>by
  rw [z59]
  rcases List.mem_cons.1 h with rfl | h
  ·exact Int.le_trans (Int.le_max_right _ _) (z3b gs _)
  ·exact z7s h
theorem z8A:∀ {gs:List GC} {m B:Int},m<=B->(∀ a ∈ gs,a.col+a.cols<=B)->z0v m gs<=B
 | [],m,B,h,_=>h
 | a :: gs,m,B,h,h2=>by
  rw [z59];exact z8A (Int.max_le.2 ⟨h,h2 a (by simp)⟩) (fun b hb=>h2 b (by simp [hb]))
theorem zay {t:T} (hl:Low t) (hc:t.cols.length<=8):1<=z0v (max 1 (t.cols.length:Int)) (zN t)/\z0v (max 1 (t.cols.length:Int)) (zN t)<=88/\(t.cols.length:Int)<=z0v (max 1 (t.cols.length:Int)) (zN t):=by
 have h1:=z3b (zN t) (max 1 (t.cols.length:Int));have h2:z0v (max 1 (t.cols.length:Int)) (zN t)<=88:=z8A (by omega) (fun a ha=>by have:=z3Z hl ha;unfold z19 at this;omega);omega
end
section
open Go.RowKit
def TA (w:World) (z:Nat) (ac ar:Option Addr) (cc cr:Nat) (t:T):Prop:=zY w z (.slice ac t.cols.length cc) t.cols/\zJ w z (.slice ar t.rows.length cr) t.rows
theorem TA.kept {w w':World} {z:Nat} {ac ar:Option Addr} {cc cr:Nat} {t:T} (h:TA w z ac ar cc cr t) (hb:Below w.heap.size w w'):TA w' z ac ar cc cr t:=⟨h.1.kept hb,h.2.kept hb⟩
def St (w:World) (tb:Nat) (ac ar:Option Addr) (cc cr:Nat) (t:T) (W:World):Prop:=Below w.heap.size w W/\TA W w.heap.size ac ar cc cr t/\W.heap[tb]?=some (.cells #[.slice ac t.cols.length cc,int i64 t.head,int i64 t.foot,.slice ar t.rows.length cr,int i64 t.gap] 26)
theorem St.kept {w W W':World} {tb:Nat} {ac ar:Option Addr} {cc cr:Nat} {t:T} (h:St w tb ac ar cc cr t W) (hb:Below W.heap.size W W'):St w tb ac ar cc cr t W' :=
 ⟨h.1.trans (hb.mono h.1.size),h.2.1.kept hb,(hb.block tb (bL h.2.2)).trans h.2.2⟩
theorem St.at {w W:World} {tb:Nat} {ac ar:Option Addr} {cc cr:Nat} {t:T} (h:St w tb ac ar cc cr t W):(W.cell? ⟨tb,0,none⟩=some (.slice ac t.cols.length cc)/\W.cell? ⟨tb,1,none⟩=some (int i64 t.head)/\W.cell? ⟨tb,2,none⟩=some (int i64 t.foot)/\W.cell? ⟨tb,3,none⟩=some (.slice ar t.rows.length cr)/\W.cell? ⟨tb,4,none⟩=some (int i64 t.gap)):=(z22 h.2.2).1
theorem z81 {t:T} (hD:z0b t):∀ x ∈ (gOf t).cells,GOk x:=by
 unfold gOf
 split
 ·rename_i h
  have hl:=z4I h hD;exact fun x hx=>(z3Z hl hx).gok hl.rows
 ·intro x hx
  cases hx
def SGr (w:World) (tb gb:Nat) (ac ar:Option Addr) (cc cr:Nat) (t:T) (ag:Option Addr) (cg:Nat) (W:World):Prop :=
 St w tb ac ar cc cr t W/\z2W W w.heap.size (.slice ag (gOf t).cells.length cg) (gOf t).cells/\W.heap[gb]?=some (.cells #[int i64 (gOf t).rows,int i64 (gOf t).cols,.slice ag (gOf t).cells.length cg] 68)
theorem SGr.kept {w W W':World} {tb gb:Nat} {ac ar ag:Option Addr} {cc cr cg:Nat} {t:T} (h:SGr w tb gb ac ar cc cr t ag cg W) (hb:Below W.heap.size W W'):SGr w tb gb ac ar cc cr t ag cg W' :=
 ⟨h.1.kept hb,h.2.1.kept hb,(hb.block gb (bL h.2.2)).trans h.2.2⟩
theorem SGr.at {w W:World} {tb gb:Nat} {ac ar ag:Option Addr} {cc cr cg:Nat} {t:T} (h:SGr w tb gb ac ar cc cr t ag cg W):W.cell? ⟨gb,0,none⟩=some (int i64 (gOf t).rows)/\W.cell? ⟨gb,1,none⟩=some (int i64 (gOf t).cols)/\W.cell? ⟨gb,2,none⟩=some (.slice ag (gOf t).cells.length cg) :=
 ⟨zf h.2.2,zf h.2.2,zf h.2.2⟩
theorem z66 {w:World} {base:Nat} {v:Value} {gs:List GC} (h:z9y w base v gs):∃ a cap,v=.slice a gs.length cap:=by
 rcases h.2 with ⟨rfl,hn⟩ | ⟨g,cap,cur,rfl,_⟩
 ·exact ⟨none,0,by rw [hn]⟩
 ·exact ⟨_,cap,rfl⟩
theorem z3k {t:T} (h:zq t=true):gOf t=⟨t.rows.length,z0v (max 1 (t.cols.length:Int)) (zN t),zN t⟩:=by unfold gOf;rw [if_pos h]
theorem z9I {t:T} (h:zq t=false):gOf t=⟨0,0,[]⟩:=by unfold gOf;rw [if_neg (by rw [h];simp)]
def SCe (w:World) (tb gb cb:Nat) (ac ar:Option Addr) (cc cr:Nat) (t:T) (ag:Option Addr) (cg:Nat) (x:GC) (W:World):Prop :=
 SGr w tb gb ac ar cc cr t ag cg W/\W.heap[cb]?=some (.cells #[int i64 x.row,int i64 x.col,int i64 x.rows,int i64 x.cols,int i64 x.ins] 73)
theorem SCe.kept {w W W':World} {tb gb cb:Nat} {ac ar ag:Option Addr} {cc cr cg:Nat} {t:T} {x:GC} (h:SCe w tb gb cb ac ar cc cr t ag cg x W) (hb:Below W.heap.size W W'):SCe w tb gb cb ac ar cc cr t ag cg x W' :=
 ⟨h.1.kept hb,(hb.block cb (bL h.2)).trans h.2⟩
theorem SCe.at {w W:World} {tb gb cb:Nat} {ac ar ag:Option Addr} {cc cr cg:Nat} {t:T} {x:GC} (h:SCe w tb gb cb ac ar cc cr t ag cg x W):W.cell? ⟨cb,0,none⟩=some (int i64 x.row)/\W.cell? ⟨cb,1,none⟩=some (int i64 x.col)/\W.cell? ⟨cb,2,none⟩=some (int i64 x.rows)/\W.cell? ⟨cb,3,none⟩=some (int i64 x.cols)/\W.cell? ⟨cb,4,none⟩=some (int i64 x.ins) :=
 ⟨zf h.2,zf h.2,zf h.2,zf h.2,zf h.2⟩
def zeq (x:GC):Prop:=(0<=x.row/\x.row<=8)/\(0<=x.col/\x.col<=84)/\(1<=x.rows/\x.rows<=3)/\(1<=x.cols/\x.cols<=4)/\0<=x.ins/\x.ins<=4
theorem z19.small {n:Nat} {a:GC} (hn:n<=8) (h:z19 n a):zeq a:=by
 unfold z19 at h;unfold zeq;omega
def plC (x:C):C:={ x with c:=1,r:=1 }
def plR (r:R):R:={ r with cells:=r.cells.map plC }
def plT (t:T):T:={ t with cols:=[],rows:=t.rows.map plR }
theorem z85 (t:T) (i:Nat):(plT t).rows.getD i dR=plR (t.rows.getD i dR):=by
 show (t.rows.map plR).getD i dR=plR (t.rows.getD i dR);by_cases h:i < t.rows.length
 ·simp [List.getD,h]
 ·simp [List.getD,h,plR,dR]
theorem z68 {t:T} (h:z0b t):z0b (plT t):=by
 refine ⟨by show (t.rows.map plR).length<=9;rw [List.length_map];exact h.rows,Nat.zero_le _,h.head,h.foot,h.gap,fun r hr x hx=>?_,?_⟩
 ·obtain ⟨r0,hr0,rfl⟩:=List.mem_map.1 hr;obtain ⟨x0,hx0,rfl⟩:=List.mem_map.1 hx;exact ⟨(h.cells r0 hr0 x0 hx0).1,.inl (by show (1:Int)<=3;omega)⟩
 ·obtain ⟨k,hk⟩:=h.few;refine ⟨k,fun i=>?_⟩;rw [z85];show ((t.rows.getD i dR).cells.map plC).length<=_;rw [List.length_map];exact hk i
theorem zft {t:T} (h:zq t=true):zq (plT t)=true:=by
 unfold zq at h |-;simp only [Bool.and_eq_true] at h |-;obtain ⟨h1,h2,h3,h4,h5⟩:=h;have hl:(plT t).rows.length=t.rows.length:=(by show (t.rows.map plR).length=_;rw [List.length_map]);refine ⟨by rw [hl];exact h1,by rw [hl];exact h2,h3,rfl,?_⟩;rw [List.all_eq_true] at h5 |-;intro r hr;obtain ⟨r0,hr0,rfl⟩:=List.mem_map.1 hr;have h6:=h5 r0 hr0;unfold z0Y at h6 |-;rw [Bool.and_eq_true] at h6 |-;refine ⟨by show decide ((r0.cells.map plC).length<=5)=true;rw [List.length_map];exact h6.1,?_⟩;have h7:=h6.2;rw [List.all_eq_true] at h7 |-;intro x hx;obtain ⟨x0,hx0,rfl⟩:=List.mem_map.1 hx;have h8:=h7 x0 hx0;simp only [cB,zR,Bool.and_eq_true] at h8 |-;exact ⟨h8.1,rfl,rfl,h8.2.2.2⟩
structure PlG (r i:Nat) (gs:List GC):Prop where
 each:∀ a ∈ gs,a.rows=1/\a.cols=1/\a.col=a.ins/\0<=a.ins/\(a.row < r\/a.row=r/\a.ins < i)
 all:∀ j:Nat,j < i->∃ a ∈ gs,a.row=r/\a.ins=j
theorem zcI {gs:List GC} {r i:Nat} (h:PlG r i gs) (hi:i < 1000) {e:Int} (he:(r:Int) < e) {x:C} (hx:x.c=1/\x.r=1):z0F gs r i e x=⟨r,i,1,1,i⟩:=by
 have hb:z2w r i e x=⟨r,0,1,1,i⟩:=by
  unfold z2w;rw [hx.1,hx.2,show min (1:Int) (e - r)=1 by omega]
 have hfree:z18 gs (z0A ⟨r,0,1,1,i⟩ ((i:Nat):Int))=true:=by
  unfold z18;rw [List.all_eq_true];intro a ha;obtain ⟨h1,h2,h3,h4,h5⟩:=h.each a ha
  cases hm:z2F a (z0A ⟨r,0,1,1,i⟩ ((i:Nat):Int)) with
  | false=>rfl
  | true =>
   exfalso
   unfold z2F z0A at hm;simp only [Bool.and_eq_true,decide_eq_true_eq] at hm;omega
 obtain ⟨f1,f2,f3⟩:=z9v hi hfree
 have hF:z3j gs ⟨r,0,1,1,i⟩=i:=by
  rcases Nat.lt_or_eq_of_le f1 with hlt | he
  ·exfalso
   obtain ⟨a,ha,a1,a2⟩:=h.all _ hlt;obtain ⟨h1,h2,h3,h4,h5⟩:=h.each a ha;unfold z18 at f2;have:=List.all_eq_true.1 f2 a ha
   have hm:z2F a (z0A ⟨r,0,1,1,i⟩ ((z3j gs ⟨r,0,1,1,i⟩:Nat):Int))=true:=by
    unfold z2F z0A;simp only [Bool.and_eq_true,decide_eq_true_eq];omega
   rw [hm] at this
   cases this
  ·exact he
 unfold z0F;rw [hb,hF];rfl
theorem zdF {gs:List GC} {r i:Nat} (h:PlG r i gs):PlG r (i+1) (gs ++ [⟨r,i,1,1,i⟩]):=by
 refine ⟨fun a ha=>?_,fun j hj=>?_⟩
 ·rcases List.mem_append.1 ha with h1 | h1
  ·obtain ⟨e1,e2,e3,e4,e5⟩:=h.each a h1;exact ⟨e1,e2,e3,e4,by omega⟩
  ·rw [List.mem_singleton] at h1;subst h1;exact ⟨rfl,rfl,rfl,by show (0:Int)<=(i:Int);omega,.inr ⟨rfl,by show (i:Int) < ((i+1:Nat):Int);omega⟩⟩
 ·rcases Nat.lt_or_eq_of_le (Nat.lt_succ_iff.1 hj) with h1 | rfl
  ·obtain ⟨a,ha,e⟩:=h.all j h1;exact ⟨a,List.mem_append_left _ ha,e⟩
  ·exact ⟨_,List.mem_append_right _ (List.mem_singleton.2 rfl),rfl,rfl⟩
def z7w (r n:Nat):List GC:=(List.range n).map fun j:Nat=>⟨r,j,1,1,j⟩
theorem zbE (r n:Nat):z7w r (n+1)=z7w r n ++ [⟨r,n,1,1,n⟩]:=by simp [z7w,List.range_succ]
theorem z9N {t:T} (hl:Low t) (hp:∀ r ∈ t.rows,∀ x ∈ r.cells,x.c=1/\x.r=1) {r:Nat} (hr:r < t.rows.length) {gs:List GC} (h:PlG r 0 gs) (h5:(t.rows.getD r dR).cells.length<=5):∀ i,i<=(t.rows.getD r dR).cells.length ->
  PlG r i (z15 (z06 t r) r (t.rows.getD r dR).cells gs i)/\z15 (z06 t r) r (t.rows.getD r dR).cells gs i=gs ++ z7w r i
 | 0,_=>⟨h,by simp [z15,z7w]⟩
 | i+1,hi=>by
  obtain ⟨h1,h2⟩:=z9N hl hp hr h h5 i (by omega);have hm:(t.rows.getD r dR) ∈ t.rows:=z1L (d:=dR) hr;have hx:(t.rows.getD r dR).cells.getD i dC ∈ (t.rows.getD r dR).cells:=z1L (d:=dC) (by omega);have hpl:=zcI h1 (by omega) (z4H hl hr).1 (hp _ hm _ hx);rw [z15,hpl];exact ⟨zdF h1,by rw [h2,zbE,List.append_assoc]⟩
theorem zeM {r i:Nat} {gs:List GC} (h:PlG r i gs):PlG (r+1) 0 gs:=by
 refine ⟨fun a ha=>?_,fun j hj=>absurd hj (Nat.not_lt_zero _)⟩;obtain ⟨e1,e2,e3,e4,e5⟩:=h.each a ha;exact ⟨e1,e2,e3,e4,by omega⟩
theorem z8D {t:T} (hl:Low t) (hp:∀ r ∈ t.rows,∀ x ∈ r.cells,x.c=1/\x.r=1) (h5:∀ r,(t.rows.getD r dR).cells.length<=5):∀ r,r<=t.rows.length->PlG r 0 (z03 t r)
 | 0,_=>⟨fun a ha=>absurd ha (List.not_mem_nil),fun j hj=>absurd hj (Nat.not_lt_zero _)⟩
 | r+1,hr=>zeM (z9N hl hp (by omega) (z8D hl hp h5 r (by omega)) (h5 r) _ (Nat.le_refl _)).1
def zgr (gs:List GC) (k:Nat):Int:=(gs.take k).foldl (fun m a=>max m (a.ins+1)) 1
theorem z7x {cs cs':List C} (h:∀ i,(cs'.getD i dC).c=(cs.getD i dC).c/\(cs'.getD i dC).r=(cs.getD i dC).r) (e:Int) (r:Nat) (gs:List GC):∀ i,z15 e r cs' gs i=z15 e r cs gs i
 | 0=>rfl
 | i+1=>by
  simp only [z15,z7x h e r gs i];have:z2w r i e (cs'.getD i dC)=z2w r i e (cs.getD i dC):=(by rw [z2w,z2w,(h i).1,(h i).2]);rw [z0F,z0F,this]
theorem z6K {t t':T} (hh:t'.head=t.head) (hf:t'.foot=t.foot) (hl:t'.rows.length=t.rows.length) (hc:∀ r,(t'.rows.getD r dR).cells.length=(t.rows.getD r dR).cells.length) (h:∀ r i,((t'.rows.getD r dR).cells.getD i dC).c=((t.rows.getD r dR).cells.getD i dC).c/\((t'.rows.getD r dR).cells.getD i dC).r=((t.rows.getD r dR).cells.getD i dC).r):∀ r,z03 t' r=z03 t r
 | 0=>rfl
 | r+1=>by
  have he:z06 t' r=z06 t r:=(by rw [z06,z06,hh,hf,hl]);simp only [z03,z6K hh hf hl hc h r,he,hc r,z7x (h r)]
def txT (t:T) (r a:Nat) (s:ByteArray):T:=z1A t r ((t.rows.getD r dR).cells.set a (txC ((t.rows.getD r dR).cells.getD a dC) s))
theorem z3H (t:T) (r a:Nat) (s:ByteArray):(txT t r a s).rows.length=t.rows.length:=zbG _ _ _
theorem z87 (t:T) (r a:Nat) (s:ByteArray) (q:Nat):((txT t r a s).rows.getD q dR).cells=if q=r/\r < t.rows.length then (t.rows.getD r dR).cells.set a (txC ((t.rows.getD r dR).cells.getD a dC) s) else (t.rows.getD q dR).cells:=by
 unfold txT z1A;show ((t.rows.set r _).getD q dR).cells=_;rw [List.getD_eq_getElem?_getD,List.getElem?_set]
 split
 ·rename_i h
  subst h;by_cases hr:r < t.rows.length
  ·rw [if_pos hr,if_pos ⟨rfl,hr⟩];rfl
  ·rw [if_neg hr,if_neg (by simp [hr]),List.getD_eq_getElem?_getD,List.getElem?_eq_none (by omega)]
 ·rename_i h
  rw [if_neg (by omega),List.getD_eq_getElem?_getD]
theorem zdH (t:T) (r a:Nat) (s:ByteArray) (q i:Nat):(((txT t r a s).rows.getD q dR).cells.getD i dC).c=((t.rows.getD q dR).cells.getD i dC).c/\(((txT t r a s).rows.getD q dR).cells.getD i dC).r=((t.rows.getD q dR).cells.getD i dC).r:=by
 rw [z87]
 split
 ·rename_i h
  obtain ⟨rfl,_⟩:=h;rw [List.getD_eq_getElem?_getD,List.getElem?_set]
  split
  ·rename_i h
   subst h
   split
   ·exact ⟨rfl,rfl⟩
   ·rw [List.getD_eq_getElem?_getD,List.getElem?_eq_none (by omega)];exact ⟨rfl,rfl⟩
  ·rw [List.getD_eq_getElem?_getD];exact ⟨rfl,rfl⟩
 ·exact ⟨rfl,rfl⟩
theorem z8E (t:T) (r a:Nat) (s:ByteArray) (q:Nat):((txT t r a s).rows.getD q dR).cells.length=(t.rows.getD q dR).cells.length:=by
 rw [z87]
 split
 ·rename_i h
  rw [List.length_set,h.1]
 ·rfl
theorem zdI (t:T) (r a:Nat) (s:ByteArray):zN (txT t r a s)=zN t:=by
 unfold zN;rw [z3H];exact z6K (t:=t) (t':=txT t r a s) rfl rfl (z3H _ _ _ _) (z8E t r a s) (zdH t r a s) _
theorem zcK {t:T} (hk:zq t=true) {r a:Nat} (hr:r < t.rows.length) (ha:a < (t.rows.getD r dR).cells.length) {s:ByteArray} (hs:zC s=true):zq (txT t r a s)=true:=by
 have hm:t.rows.getD r dR ∈ t.rows:=(by rw [zI dR hr];exact List.getElem_mem hr);simp only [zq,Bool.and_eq_true,List.all_eq_true] at hk |-;rw [z3H];refine ⟨hk.1,hk.2.1,hk.2.2.1,hk.2.2.2.1,fun q hq=>?_⟩
 rcases List.mem_or_eq_of_mem_set hq with hq | rfl
 ·exact hk.2.2.2.2 q hq
 ·have h0:=hk.2.2.2.2 _ hm;simp only [z0Y,Bool.and_eq_true,decide_eq_true_eq,List.all_eq_true] at h0 |-;refine ⟨by rw [List.length_set];exact h0.1,fun y hy=>?_⟩
  rcases List.mem_or_eq_of_mem_set hy with hy | rfl
  ·exact h0.2 y hy
  ·have h1:=h0.2 _ (List.getElem_mem ha);rw [<-zI dC ha] at h1;simp only [cB,zR,Bool.and_eq_true] at h1 |-;exact ⟨hs,h1.2⟩
theorem zeN {t:T} (hk:zq t=true) {r a:Nat} (hr:r < t.rows.length) (ha:a < (t.rows.getD r dR).cells.length) {s:ByteArray} (hs:zC s=true):gOf (txT t r a s)=gOf t:=by
 rw [gOf,gOf,if_pos (zcK hk hr ha hs),if_pos hk,zdI,z3H];rfl
theorem z8F {t:T} (hD:z0b t) {r a:Nat} (ha:a < (t.rows.getD r dR).cells.length) {s:ByteArray} (hs:s.size<=61):z0b (txT t r a s):=by
 have hr:r < t.rows.length:=by
  rcases Nat.lt_or_ge r t.rows.length with h | h
  ·exact h
  ·rw [List.getD_eq_getElem?_getD,List.getElem?_eq_none h] at ha;exact absurd ha (by simp [dR])
 have hm:t.rows.getD r dR ∈ t.rows:=(by rw [zI dR hr];exact List.getElem_mem hr);refine ⟨by rw [z3H];exact hD.rows,hD.cols,hD.head,hD.foot,hD.gap,fun q hq x hx=>?_,?_⟩
 ·rcases List.mem_or_eq_of_mem_set hq with hq | rfl
  ·exact hD.cells q hq x hx
  ·rcases List.mem_or_eq_of_mem_set hx with hx | rfl
   ·exact hD.cells _ hm x hx
   ·have h1:=hD.cells _ hm _ (List.getElem_mem ha);rw [<-zI dC ha] at h1;exact ⟨hs,h1.2⟩
 ·obtain ⟨k,hk⟩:=hD.few;exact ⟨k,fun i=>by rw [z8E];exact hk i⟩
def maB:ByteArray:=⟨#[32,97]⟩
def maW:W30:=⟨⟨#[97]⟩,by decide⟩
theorem z1B (s:ByteArray):(s ++ maB).size=s.size+2:=by rw [ByteArray.size_append];rfl
theorem z6a {s:ByteArray} {i:Nat} (h:i < s.size):ch (s ++ maB) i=ch s i:=by
 have h1:i < (s ++ maB).size:=(by rw [z1B];omega);rw [z4V h1,z4V h,ByteArray.getElem_append_left h]
theorem z9R {s:ByteArray} {j:Nat} (hj:j < 2):ch (s ++ maB) (s.size+j)=ch maB j:=by
 have h1:s.size+j < (s ++ maB).size:=(by rw [z1B];omega);have h2:j < maB.size:=hj;rw [z4V h1,z4V h2,ByteArray.getElem_append_right (by omega)];simp
theorem zbH:ch maB 0=32/\ch maB 1=97:=by decide +kernel
theorem zbI {s:ByteArray} (hok:zC s=true) (hp:0 < s.size) (h30:s.size+2<=30):zC (s ++ maB)=true:=by
 obtain ⟨_,hg⟩:=(z1u s).1 hok;obtain ⟨c0,c1⟩:=zbH
 have hlast:ch s (s.size - 1) ≠ 32:=fun hc=>by
  have:=hg (s.size - 1) (by omega);simp [z0B,hc] at this;omega
 refine z4h (by rw [z1B];exact h30) (fun i hi=>?_);rw [z1B] at hi;by_cases hlt:i < s.size
 ·have h1:=hg i hlt;have e:=z6a hlt;unfold z0B at h1 |-;rw [decide_eq_true_iff] at h1 |-;rw [e,z1B];refine ⟨fun hc=>?_,h1.2⟩;obtain ⟨a1,a2,a3⟩:=h1.1 hc;refine ⟨a1,by omega,?_⟩;rw [z6a (by omega)];exact a3
 ·obtain ⟨j,rfl⟩:∃ j,i=s.size+j:=⟨i - s.size,by omega⟩;have hj:j < 2:=(by omega);unfold z0B;rw [decide_eq_true_iff,z9R hj,z1B]
  rcases (by omega:j=0\/j=1) with rfl | rfl
  ·rw [c0];refine ⟨fun _=>⟨by omega,by omega,?_⟩,fun h=>absurd rfl h⟩;rw [Nat.add_zero,z6a (by omega)];exact hlast
  ·rw [c1];exact ⟨fun h=>absurd h (by decide),fun _=>by decide⟩
theorem zeQ {s:ByteArray} {i:Nat} (hi:i < s.size):z0i (s ++ maB) i=z0i s i:=by
 obtain ⟨h1,h2,h3,h4⟩:=z4W s i (by omega);obtain ⟨c0,_⟩:=zbH;refine z84 (fun j hj1 hj2=>by rw [z6a (by omega)];exact h3 j hj1 hj2) h1 (by rw [z1B];omega) (fun _=>?_)
 rcases Nat.lt_or_eq_of_le h2 with hlt | heq
 ·rw [z6a hlt];exact h4 hlt
 ·rw [heq,<-Nat.add_zero s.size,z9R (by omega)];exact c0
theorem zbJ {s:ByteArray} {i e:Nat} (he:e<=s.size):(s ++ maB).extract i e=s.extract i e:=by
 apply Go.WideShapes.bytes_inj;have he':e<=s.data.size:=he;rw [ByteArray.data_extract,ByteArray.data_extract,ByteArray.data_append,Array.toList_extract,Array.toList_extract,Array.toList_append];simp only [List.extract_eq_take_drop]
 rcases Nat.lt_or_ge i e with hlt | hge
 ·rw [List.drop_append_of_le_length (by simp;omega),List.take_append_of_le_length (by simp;omega)]
 ·rw [show e - i=0 by omega,List.take_zero,List.take_zero]
theorem zeR {s:ByteArray}:(s ++ maB).extract (s.size+1) (s.size+2)=⟨#[97]⟩:=by
 apply Go.WideShapes.bytes_inj;have hl:s.data.toList.length=s.size:=(by simp);rw [ByteArray.data_extract,ByteArray.data_append,Array.toList_extract,Array.toList_append];simp only [List.extract_eq_take_drop];rw [show s.size+2 - (s.size+1)=1 by omega,List.drop_append,hl,List.drop_of_length_le (by omega),show s.size+1 - s.size=1 by omega];rfl
theorem z5Q {s:ByteArray} (hok:zC s=true) (h30:s.size+2<=30) (k:Nat) (hs:z5y s k) (hk:k < s.size):z0n (s ++ maB) k=z0n s k ++ [⟨#[97]⟩]:=by
 obtain ⟨h1,h2,h3,_⟩:=z4k hok hk hs;obtain ⟨_,_,_,h4⟩:=z4W s k (by omega);obtain ⟨_,c1⟩:=zbH;rw [z1W (by rw [z1B];omega:k < (s ++ maB).size),z1W hk,zeQ hk,zbJ h2];by_cases he:z0i s k < s.size
 ·have hb:=h4 he
  have hne:z0i s k+1 < s.size:=by
   have hg:=((z1u s).1 hok).2 _ he;simp [z0B,hb] at hg;omega
  rw [z5Q hok h30 _ h3 hne];rfl
 ·have e:z0i s k=s.size:=(by omega)
  have ew:z0i (s ++ maB) (s.size+1)=s.size+2:=z84 (fun j hj1 hj2=>by
   obtain rfl:j=s.size+1:=by omega
   rw [z9R (by omega),c1];decide) (by omega) (by rw [z1B];omega) (fun h=>by rw [z1B] at h;omega)
  rw [e,z1W (by rw [z1B];omega:s.size+1 < (s ++ maB).size),ew,zeR,z2r (by rw [z1B];omega:¬ s.size+2+1 < (s ++ maB).size),z2r (by omega:¬ s.size+1 < s.size)];rfl
termination_by s.size - k
theorem z9S {s:ByteArray} (hok:zC s=true) (hp:0 < s.size) (h30:s.size+2<=30):zV (s ++ maB)=zV s ++ [maW]:=by
 rw [zV,if_pos (zbI hok hp h30),zV,if_pos hok,z5Q hok h30 0 (z4j hok) hp,List.map_append];rfl
def z5a (st:List ByteArray × ByteArray):Prop:=st.2.size=0->st.1=[]
theorem z6f (q:Int) (st:List ByteArray × ByteArray) (x:W30):z5a (zZ q st x.1):=by
 have hx:=x.2.1;intro h0;unfold zZ at h0 |-;by_cases h1:0 < st.2.size
 ·by_cases h2:q < (st.2.size:Int)+1+x.1.size
  ·rw [if_pos h1,if_pos h2] at h0;dsimp only at h0;omega
  ·rw [if_pos h1,if_neg h2] at h0;dsimp only at h0;rw [ByteArray.size_append] at h0;omega
 ·rw [if_neg h1] at h0;dsimp only at h0;omega
theorem zdT (q:Int) (ws:List W30):z5a (z0Q q ws):=by
 suffices h:∀ (l:List W30) (st:List ByteArray × ByteArray),z5a st->z5a (l.foldl (fun st x=>zZ q st x.1) st) from h ws _ (fun _=>rfl)
 intro l
 induction l with
 | nil=>intro st h;exact h
 | cons x r ih=>intro st _;exact ih _ (z6f q st x)
def z7C (l:List ByteArray):ByteArray:=l.getD (l.length - 1) eS
theorem zdU {st:List ByteArray × ByteArray} (h:(z08 st).length ≠ 0) (hok:z5a st):0 < st.2.size/\z08 st=st.1 ++ [st.2]/\z7C (z08 st)=st.2:=by
 obtain ⟨lines,line⟩:=st
 have h0:0 < line.size:=by
  rcases Nat.eq_zero_or_pos line.size with h0 | h0
  ·have hl:lines=[]:=hok h0;subst hl;simp [z08,h0] at h
  ·exact h0
 have e:z08 (lines,line)=lines ++ [line]:=(by simp [z08,h0]);refine ⟨h0,e,?_⟩;rw [e];simp [z7C,List.getD]
theorem zcR (q:Int) (ws:List W30):(z08 (z0Q q ws)).length<=ws.length+1/\(z7C (z08 (z0Q q ws))).size<=31 * ws.length:=by
 obtain ⟨h1,h2⟩:=z5B q ws;constructor
 ·unfold z08
  split
  ·simp;omega
  ·omega
 ·rcases Nat.eq_zero_or_pos (z08 (z0Q q ws)).length with h | h
  ·have:z08 (z0Q q ws)=[]:=List.eq_nil_of_length_eq_zero h;rw [this];simp [z7C,eS]
  ·rw [(zdU (by omega) (zdT q ws)).2.2];exact h2
def zfV:List ByteArray->ByteArray
 | []=>⟨#[]⟩
 | [x]=>x
 | x :: y :: r=>x ++ ⟨#[32]⟩ ++ zfV (y :: r)
def z8c (a b:List ByteArray × ByteArray):Prop:=(z08 a).length < (z08 b).length\/(z08 a).length=(z08 b).length/\a.2.size<=b.2.size
theorem z8d {q:Int} {st:List ByteArray × ByteArray} (h:¬ 0 < st.2.size) (x:W30):(z08 (zZ q st x.1)).length=(z08 st).length+1/\(zZ q st x.1).2.size=x.1.size:=by
 have hx:=x.2.1;have e:zZ q st x.1=(st.1,x.1):=(by unfold zZ;rw [if_neg h]);rw [e];simp [z08,h,hx]
theorem z44 {q:Int} {st:List ByteArray × ByteArray} (h:0 < st.2.size) (x:W30) (hq:q < (st.2.size:Int)+1+x.1.size):(z08 (zZ q st x.1)).length=(z08 st).length+1/\(zZ q st x.1).2.size=x.1.size:=by
 have hx:=x.2.1;have e:zZ q st x.1=(st.1 ++ [st.2],x.1):=(by unfold zZ;rw [if_pos h,if_pos hq]);rw [e];simp [z08,h,hx]
theorem z4M {q:Int} {st:List ByteArray × ByteArray} (h:0 < st.2.size) (x:W30) (hq:¬ q < (st.2.size:Int)+1+x.1.size):(z08 (zZ q st x.1)).length=(z08 st).length/\(zZ q st x.1).2.size=st.2.size+1+x.1.size:=by
 have e:zZ q st x.1=(st.1,st.2 ++ ⟨#[32]⟩ ++ x.1):=(by unfold zZ;rw [if_pos h,if_neg hq]);have hz:(st.2 ++ ⟨#[32]⟩ ++ x.1).size=st.2.size+1+x.1.size:=(by rw [ByteArray.size_append,ByteArray.size_append];rfl);rw [e];refine ⟨?_,hz⟩;have hp:0 < (st.2 ++ ⟨#[32]⟩ ++ x.1).size:=(by omega);simp only [z08,hp,h,if_true,List.length_append,List.length_cons,List.length_nil]
theorem za4 {st:List ByteArray × ByteArray} (hok:z5a st):(¬ 0 < st.2.size->(z08 st).length=0)/\(0 < st.2.size->0 < (z08 st).length):=by
 refine ⟨fun h=>?_,fun h=>?_⟩
 ·have:st.1=[]:=hok (by omega);simp [z08,h,this]
 ·simp [z08,h]
theorem zbM {p q:Int} (hpq:p<=q) {a b:List ByteArray × ByteArray} (ha:z5a a) (hb:z5a b) (h:z8c a b) (x:W30):z8c (zZ q a x.1) (zZ p b x.1):=by
 have hx:=x.2.1;obtain ⟨za,za'⟩:=za4 ha;obtain ⟨zb,zb'⟩:=za4 hb;unfold z8c at h |-;by_cases h1:0 < a.2.size
 ·have c1:=za' h1
  have h2:0 < b.2.size:=by
   by_cases h2:0 < b.2.size
   ·exact h2
   ·have:=zb h2;omega
  by_cases qa:q < (a.2.size:Int)+1+x.1.size
  ·obtain ⟨e1,e2⟩:=z44 h1 x qa;by_cases qb:p < (b.2.size:Int)+1+x.1.size
   ·obtain ⟨e3,e4⟩:=z44 h2 x qb;omega
   ·obtain ⟨e3,e4⟩:=z4M h2 x qb;omega
  ·obtain ⟨e1,e2⟩:=z4M h1 x qa;by_cases qb:p < (b.2.size:Int)+1+x.1.size
   ·obtain ⟨e3,e4⟩:=z44 h2 x qb;omega
   ·obtain ⟨e3,e4⟩:=z4M h2 x qb;omega
 ·have c1:=za h1;obtain ⟨e1,e2⟩:=z8d (q:=q) h1 x;by_cases h2:0 < b.2.size
  ·have:=zb' h2;by_cases qb:p < (b.2.size:Int)+1+x.1.size
   ·obtain ⟨e3,e4⟩:=z44 h2 x qb;omega
   ·obtain ⟨e3,e4⟩:=z4M h2 x qb;omega
  ·obtain ⟨e3,e4⟩:=z8d (q:=p) h2 x;have:=zb h2;omega
theorem zfW {p q:Int} (hpq:p<=q) (ws:List W30):(z08 (z0Q q ws)).length<=(z08 (z0Q p ws)).length:=by
 suffices h:∀ (l:List W30) (a b:List ByteArray × ByteArray),z5a a->z5a b->z8c a b->z8c (l.foldl (fun st x=>zZ q st x.1) a) (l.foldl (fun st x=>zZ p st x.1) b) by
  have:=h ws ([],⟨#[]⟩) ([],⟨#[]⟩) (fun _=>rfl) (fun _=>rfl) (Or.inr ⟨rfl,Nat.le_refl _⟩);unfold z8c at this;have e1:z0Q q ws=ws.foldl (fun st x=>zZ q st x.1) ([],⟨#[]⟩):=rfl;have e2:z0Q p ws=ws.foldl (fun st x=>zZ p st x.1) ([],⟨#[]⟩):=rfl;rw [e1,e2];omega
 intro l
 induction l with
 | nil=>intro a b _ _ h;exact h
 | cons x r ih=>intro a b ha hb h;exact ih _ _ (z6f q a x) (z6f p b x) (zbM hpq ha hb h x)
theorem zeY {q:Int} {n:Nat} (hq:q<=(n:Int)) (ws:List W30) (hw:∀ x ∈ ws,x.1.size<=n):∀ y ∈ z08 (z0Q q ws),y.size<=n:=by
 suffices h:∀ (l:List W30) (st:List ByteArray × ByteArray),(∀ x ∈ l,x.1.size<=n)->(∀ y ∈ st.1,y.size<=n)->st.2.size<=n->(∀ y ∈ (l.foldl (fun st x=>zZ q st x.1) st).1,y.size<=n)/\(l.foldl (fun st x=>zZ q st x.1) st).2.size<=n by
  obtain ⟨h1,h2⟩:=h ws ([],⟨#[]⟩) hw (fun y hy=>by cases hy) (Nat.zero_le _);intro y hy;unfold z08 at hy
  split at hy
  ·rcases List.mem_append.1 hy with hy | hy
   ·exact h1 y hy
   ·simp at hy;subst hy;exact h2
  ·exact h1 y hy
 intro l
 induction l with
 | nil=>intro st _ h1 h2;exact ⟨h1,h2⟩
 | cons x r ih =>
  intro st hx h1 h2;have hx1:=hx x (List.mem_cons_self ..);refine ih _ (fun y hy=>hx y (List.mem_cons_of_mem _ hy)) ?_ ?_
  ·show ∀ y ∈ (zZ q st x.1).1,y.size<=n;unfold zZ;by_cases c1:0 < st.2.size
   ·by_cases c2:q < (st.2.size:Int)+1+x.1.size
    ·rw [if_pos c1,if_pos c2];intro y hy
     rcases List.mem_append.1 hy with hy | hy
     ·exact h1 y hy
     ·simp at hy;subst hy;exact h2
    ·rw [if_pos c1,if_neg c2];exact h1
   ·rw [if_neg c1];exact h1
  ·show (zZ q st x.1).2.size<=n;by_cases c1:0 < st.2.size
   ·by_cases c2:q < (st.2.size:Int)+1+x.1.size
    ·rw [(z44 c1 x c2).2];exact hx1
    ·rw [(z4M c1 x c2).2];omega
   ·rw [(z8d (q:=q) c1 x).2];exact hx1
theorem zfg {w:World} {g:Nat} {x0 x1 x2 x3 x4 x5 x6 x7 x8 x9 x10:Value} {t:TypeId} (h:w.heap[g]?=some (.cells #[x0,x1,x2,x3,x4,x5,x6,x7,x8,x9,x10] t)) :
  w.cell? ⟨g,0,none⟩=some x0/\w.cell? ⟨g,1,none⟩=some x1/\w.cell? ⟨g,2,none⟩=some x2/\w.cell? ⟨g,3,none⟩=some x3/\w.cell? ⟨g,4,none⟩=some x4/\w.cell? ⟨g,5,none⟩=some x5/\w.cell? ⟨g,6,none⟩=some x6/\w.cell? ⟨g,7,none⟩=some x7/\w.cell? ⟨g,8,none⟩=some x8/\w.cell? ⟨g,9,none⟩=some x9/\w.cell? ⟨g,10,none⟩=some x10 :=
 ⟨Joins.cell_of_block h 0,Joins.cell_of_block h 1,Joins.cell_of_block h 2,Joins.cell_of_block h 3,Joins.cell_of_block h 4,Joins.cell_of_block h 5,Joins.cell_of_block h 6,Joins.cell_of_block h 7,Joins.cell_of_block h 8,Joins.cell_of_block h 9,Joins.cell_of_block h 10⟩
theorem z7U {w:World} {g:Nat} {x0 x1 x2 x3 x4:Value} {t:TypeId} (h:w.heap[g]?=some (.cells #[x0,x1,x2,x3,x4] t)) :
  (w.cell? ⟨g,0,none⟩=some x0/\w.cell? ⟨g,1,none⟩=some x1/\w.cell? ⟨g,2,none⟩=some x2/\w.cell? ⟨g,3,none⟩=some x3/\w.cell? ⟨g,4,none⟩=some x4)/\w.frozen? ⟨g,0,none⟩=false/\w.frozen? ⟨g,1,none⟩=false/\w.frozen? ⟨g,2,none⟩=false/\w.frozen? ⟨g,3,none⟩=false/\w.frozen? ⟨g,4,none⟩=false :=
 ⟨⟨zf h,zf h,zf h,zf h,zf h⟩,zr h,zr h,zr h,zr h,zr h⟩
theorem z3w {w:World} {g:Nat} {o:Obj} (h:w.heap[g]?=some o) (q:Obj):(w.alloc q).heap[g]?=some o:=(Below.heap_alloc _ _ _ (bL h)).trans h
structure PlW (w:World) (ac ar:Option Addr) (cc cr:Nat) (t:T) (vr:Value) (ur:List (Value × R)) (W:World):Prop where
 bel:Below w.heap.size w W
 box:W.heap[w.heap.size]?=some (.cells #[.slice ac t.cols.length cc,int i64 t.head,int i64 t.foot,.slice ar t.rows.length cr,int i64 t.gap] 26)
 res:W.heap[w.heap.size+1]?=some (.cells #[.slice none 0 0,int i64 0,int i64 0,.slice none 0 0,int i64 0] 26)
 xb:W.heap[w.heap.size+1+1]?=some (.cells #[.slice (some ⟨w.heap.size+1+1+1,0,none⟩) 0 0,int i64 t.head,int i64 t.foot,vr,int i64 t.gap] 26)
 col:W.heap[w.heap.size+1+1+1]?=some (.cells #[] 55)
 rows:zD W (w.heap.size+1+1) vr ur
theorem PlW.kept {w:World} {ac ar:Option Addr} {cc cr:Nat} {t:T} {vr:Value} {ur:List (Value × R)} {W W':World} (h:PlW w ac ar cc cr t vr ur W) (k:Below W.heap.size W W'):PlW w ac ar cc cr t vr ur W' :=
 ⟨zg h.bel k,(k.block _ (bL h.box)).trans h.box,(k.block _ (bL h.res)).trans h.res,(k.block _ (bL h.xb)).trans h.xb,(k.block _ (bL h.col)).trans h.col,h.rows.kept k⟩
theorem zfh (w:World) (ac ar:Option Addr) (cc cr:Nat) (t:T):PlW w ac ar cc cr t (.slice (some ⟨w.heap.size+1+1+1+1,0,none⟩) 0 0) [] (((((w.alloc (.cells #[.slice ac t.cols.length cc,int i64 t.head,int i64 t.foot,.slice ar t.rows.length cr,int i64 t.gap] 26)).alloc (.cells #[.slice none 0 0,int i64 0,int i64 0,.slice none 0 0,int i64 0] 26)).alloc (.cells #[.slice (some ⟨w.heap.size+1+1+1,0,none⟩) 0 0,int i64 t.head,int i64 t.foot,.slice (some ⟨w.heap.size+1+1+1+1,0,none⟩) 0 0,int i64 t.gap] 26)).alloc (.cells #[] 55)).alloc (.cells #[] 32)):=by
 have s1:(w.alloc (.cells #[.slice ac t.cols.length cc,int i64 t.head,int i64 t.foot,.slice ar t.rows.length cr,int i64 t.gap] 26)).heap.size=w.heap.size+1:=(by simp);have s2:((w.alloc (.cells #[.slice ac t.cols.length cc,int i64 t.head,int i64 t.foot,.slice ar t.rows.length cr,int i64 t.gap] 26)).alloc (.cells #[.slice none 0 0,int i64 0,int i64 0,.slice none 0 0,int i64 0] 26)).heap.size=w.heap.size+1+1:=(by simp);have s3:(((w.alloc (.cells #[.slice ac t.cols.length cc,int i64 t.head,int i64 t.foot,.slice ar t.rows.length cr,int i64 t.gap] 26)).alloc (.cells #[.slice none 0 0,int i64 0,int i64 0,.slice none 0 0,int i64 0] 26)).alloc (.cells #[.slice (some ⟨w.heap.size+1+1+1,0,none⟩) 0 0,int i64 t.head,int i64 t.foot,.slice (some ⟨w.heap.size+1+1+1+1,0,none⟩) 0 0,int i64 t.gap] 26)).heap.size=w.heap.size+1+1+1:=(by simp);have s4:((((w.alloc (.cells #[.slice ac t.cols.length cc,int i64 t.head,int i64 t.foot,.slice ar t.rows.length cr,int i64 t.gap] 26)).alloc (.cells #[.slice none 0 0,int i64 0,int i64 0,.slice none 0 0,int i64 0] 26)).alloc (.cells #[.slice (some ⟨w.heap.size+1+1+1,0,none⟩) 0 0,int i64 t.head,int i64 t.foot,.slice (some ⟨w.heap.size+1+1+1+1,0,none⟩) 0 0,int i64 t.gap] 26)).alloc (.cells #[] 55)).heap.size=w.heap.size+1+1+1+1:=(by simp);have n1:=zk (w.alloc (.cells #[.slice ac t.cols.length cc,int i64 t.head,int i64 t.foot,.slice ar t.rows.length cr,int i64 t.gap] 26)) (.cells #[.slice none 0 0,int i64 0,int i64 0,.slice none 0 0,int i64 0] 26);have n2:=zk ((w.alloc (.cells #[.slice ac t.cols.length cc,int i64 t.head,int i64 t.foot,.slice ar t.rows.length cr,int i64 t.gap] 26)).alloc (.cells #[.slice none 0 0,int i64 0,int i64 0,.slice none 0 0,int i64 0] 26)) (.cells #[.slice (some ⟨w.heap.size+1+1+1,0,none⟩) 0 0,int i64 t.head,int i64 t.foot,.slice (some ⟨w.heap.size+1+1+1+1,0,none⟩) 0 0,int i64 t.gap] 26);have n3:=zk (((w.alloc (.cells #[.slice ac t.cols.length cc,int i64 t.head,int i64 t.foot,.slice ar t.rows.length cr,int i64 t.gap] 26)).alloc (.cells #[.slice none 0 0,int i64 0,int i64 0,.slice none 0 0,int i64 0] 26)).alloc (.cells #[.slice (some ⟨w.heap.size+1+1+1,0,none⟩) 0 0,int i64 t.head,int i64 t.foot,.slice (some ⟨w.heap.size+1+1+1+1,0,none⟩) 0 0,int i64 t.gap] 26)) (.cells #[] 55);have n4:=zk ((((w.alloc (.cells #[.slice ac t.cols.length cc,int i64 t.head,int i64 t.foot,.slice ar t.rows.length cr,int i64 t.gap] 26)).alloc (.cells #[.slice none 0 0,int i64 0,int i64 0,.slice none 0 0,int i64 0] 26)).alloc (.cells #[.slice (some ⟨w.heap.size+1+1+1,0,none⟩) 0 0,int i64 t.head,int i64 t.foot,.slice (some ⟨w.heap.size+1+1+1+1,0,none⟩) 0 0,int i64 t.gap] 26)).alloc (.cells #[] 55)) (.cells #[] 32);rw [s1] at n1;rw [s2] at n2;rw [s3] at n3;rw [s4] at n4;exact ⟨ze (ze (ze (ze (ze (Below.refl _ _) _) _) _) _) _,z3w (z3w (z3w (z3w (zk _ _) _) _) _) _,z3w (z3w (z3w n1 _) _) _,z3w (z3w n2 _) _,z3w n3 _,⟨rfl,.inr ⟨_,0,#[],rfl,by omega,n4,Nat.le_refl _,Nat.zero_le _,rfl,rfl⟩⟩,(fun p hp=>by cases hp),List.Pairwise.nil⟩
theorem zar {α β:Type} (f:α->β) (d:α) {l:List α} {j:Nat} (h:j < l.length):(l.take (j+1)).map f=(l.take j).map f ++ [f (l.getD j d)]:=by
 have e:l.getD j d=l[j]:=(by simp [List.getD,h]);rw [List.take_succ_eq_append_getElem h,List.map_append,e];rfl
theorem zaV (ac ar:Option Addr) (cc cr:Nat) (t:T) (hD:z0b t) (w:World) {z:Nat} (hr:zJ w z (.slice ar t.rows.length cr) t.rows) :
  Calls Tryz.prog 8 #[.agg #[.slice ac t.cols.length cc,int i64 t.head,int i64 t.foot,.slice ar t.rows.length cr,int i64 t.gap]] w fun e w'=>∃ a1 a2 c2,e=.returned (.agg #[.slice a1 0 0,int i64 t.head,int i64 t.foot,.slice a2 t.rows.length c2,int i64 t.gap])/\z0M w' w.heap.size (.slice a1 0 0) (.slice a2 t.rows.length c2) (plT t)/\Below w.heap.size w w':=by
 obtain ⟨i1,hi1,hy0,hy1,hy2⟩:=info_parts z74;obtain ⟨i2,hi2,hx0,hx1,hx2⟩:=info_parts z6o;have h9:=hD.rows;have HRA:=Hd hr;have HP0:=Hd (zfh w ac ar cc cr t)
 have HC5:Hid (∀ q,(t.rows.getD q dR).cells.length<=5):=Hd (fun q=>by
  obtain ⟨k,hk⟩:=hD.few;have:=hk q
  split at this <;> omega)
 clear hr hD;go_enter Tryz.func8,Tryz.ntmps8;go_upto_region 4 with fail
 generalize ((((w.alloc (.cells #[.slice ac t.cols.length cc,int i64 t.head,int i64 t.foot,.slice ar t.rows.length cr,int i64 t.gap] 26)).alloc (.cells #[.slice none 0 0,int i64 0,int i64 0,.slice none 0 0,int i64 0] 26)).alloc (.cells #[.slice (some ⟨w.heap.size+1+1+1,0,none⟩) 0 0,int i64 t.head,int i64 t.foot,.slice (some ⟨w.heap.size+1+1+1+1,0,none⟩) 0 0,int i64 t.gap] 26)).alloc (.cells #[] 55)).alloc (.cells #[] 32)=W1 at HP0 |-;go_wp2_with fail
 go_loopw [4] (fun k W=>∃ (q:Nat) (vr:Value) (ur:List (Value × R)),k=int i64 (q:Int)/\q<=t.rows.length/\ur.map (·.2)=(t.rows.take q).map plR/\Hid (PlW w ac ar cc cr t vr ur W)) (fun k _=>t.rows.length - (intOf k).toNat)
 case atStart=>exact ⟨0,_,[],rfl,Nat.zero_le _,rfl,HP0⟩
 case round =>
  obtain ⟨q,vr,ur,rfl,hq,hur,HP⟩:=hrel
  have hul:ur.length=q:=by
   have:=congrArg List.length hur;rw [List.length_map,List.length_map,List.length_take] at this;omega
  have HUR:=Hd hur;clear hur HP0;obtain ⟨⟨b0,b1,b2,b3,b4⟩,_⟩:=z7U HP.out.box;by_cases hlt:q < t.rows.length
  ·obtain ⟨g,off,cap',e',hc1,hc2,hbl,u,hu,hwh,hcs⟩:=At.get (HRA.out.kept HP.out.bel) hlt;simp only [Value.slice.injEq,true_and] at e';obtain ⟨rfl,rfl⟩:=e';have h5:=HC5.out q;have HRW:Hid ((t.rows.take (q+1)).map plR=(t.rows.take q).map plR ++ [plR (t.rows.getD q dR)]):=Hd (zar plR dR hlt);obtain ⟨row,hrow⟩:∃ row,t.rows.getD q dR=row:=⟨_,rfl⟩;rw [hrow] at hwh hcs HRW h5;obtain ⟨cs,wh⟩:=row;simp only at hwh hcs h5;obtain ⟨ca,ccp,rfl,hcm⟩:=At.form hcs;unfold maxLen at hc2 hcm;have HCS:=Hd hcs;have HU0:=Hd hu;clear hcs hrow;obtain ⟨Wo,hWo⟩:∃ Wo,Wo=wr:=⟨_,rfl⟩;subst hWo;have hltB:=(bL HP.out.box);go_upto_region 8 with fail
   have KA0:=Hd (ze (Below.refl Wo.heap.size Wo) (.cells #[.slice none 0 0,.bool wh] 32));have HX0:=Hd (zk Wo (.cells #[.slice none 0 0,.bool wh] 32));generalize Wo.alloc (.cells #[.slice none 0 0,.bool wh] 32)=W2 at KA0 HX0 |-;obtain ⟨rb,hrb⟩:∃ rb,Wo.heap.size=rb:=⟨_,rfl⟩;rw [hrb] at HX0 |-;have HRB:=Hd hrb;clear hrb hu hwh b0 b1 b2 b3 b4;go_wp2_with fail
   go_loopw [6] (fun i W=>∃ (j:Nat) (vu:Value),i=int i64 (j:Int)/\j<=cs.length/\Hid (Below Wo.heap.size Wo W)/\Hid (W.heap[rb]?=some (.cells #[vu,.bool wh] 32))/\Hid (z0a W Wo.heap.size vu ((cs.take j).map plC))) (fun i _=>cs.length - (intOf i).toNat)
   case atStart=>exact ⟨0,_,rfl,Nat.zero_le _,KA0,HX0,⟨rfl,.inl ⟨rfl,rfl⟩⟩⟩
   case round =>
    obtain ⟨j,vu,rfl,hj,HB,HX,HU⟩:=hrel;clear KA0 HX0;obtain ⟨⟨d0,d1,d2,d3,d4⟩,_⟩:=z7U ((HB.out.block _ hltB).trans HP.out.box);have hu':=(HB.out.cell (p:=⟨g,off+q * 2,none⟩) hbl).trans HU0.out;have hbw:=HB.out.size;have hrl:=(bL HX.out);by_cases hjl:j < cs.length
    ·obtain ⟨g2,z3E,cap2,e2,hd1,hd2,hbl2,hx,hxs⟩:=At.get (HCS.out.kept HB.out) hjl;simp only [Value.slice.injEq,true_and] at e2;obtain ⟨rfl,rfl⟩:=e2;unfold maxLen at hd2;have HCT:Hid ((cs.take (j+1)).map plC=(cs.take j).map plC ++ [plC (cs.getD j dC)]):=Hd (zar plC dC hjl);obtain ⟨x,ex⟩:∃ x,cs.getD j dC=x:=⟨_,rfl⟩;rw [ex] at hx hxs HCT;obtain ⟨v0,v1,v2,v3,v4,v5,v6,v7,v8,v9,v10⟩:=hx;have hn:((cs.take j).map plC).length=j:=(by rw [List.length_map,List.length_take];omega)
     have hO:wr.ownsRow Wo.heap.size 36 11 vu j (((cs.take j).map plC).flatMap z01):=by
      have h:=HU.out;unfold z0a at h;rw [hn] at h;exact h
     obtain ⟨va,vcp,rfl,_⟩:=z04 hO;have HN:=Hd hn;clear ex hxs hn;go_upto_region 14 with fail
     have KA:=ze (Below.refl wr.heap.size wr) (.cells #[.string x.s,int i64 1,int i64 1,int i64 x.a1,int i64 x.b1,int i64 x.a2,int i64 x.b2,int i64 x.a3,int i64 x.b3,int i64 x.a4,int i64 x.b4] 36);have hX3:=zk wr (.cells #[.string x.s,int i64 1,int i64 1,int i64 x.a1,int i64 x.b1,int i64 x.a2,int i64 x.b2,int i64 x.a3,int i64 x.b3,int i64 x.a4,int i64 x.b4] 36);have hR3:=(KA.block _ hrl).trans HX.out;have hO3:=hO.alloc (.cells #[.string x.s,int i64 1,int i64 1,int i64 x.a1,int i64 x.b1,int i64 x.a2,int i64 x.b2,int i64 x.a3,int i64 x.b3,int i64 x.a4,int i64 x.b4] 36);have HB3:=Hd (zg HB.out KA);have hrl3:rb < (wr.alloc (.cells #[.string x.s,int i64 1,int i64 1,int i64 x.a1,int i64 x.b1,int i64 x.a2,int i64 x.b2,int i64 x.a3,int i64 x.b3,int i64 x.a4,int i64 x.b4] 36)).heap.size:=(bL hR3);clear v0 v1 v2 v3 v4 v5 v6 v7 v8 v9 v10 d0 d1 d2 d3 d4 hu' KA hO HU HX hrl;generalize wr.alloc (.cells #[.string x.s,int i64 1,int i64 1,int i64 x.a1,int i64 x.b1,int i64 x.a2,int i64 x.b2,int i64 x.a3,int i64 x.b3,int i64 x.a4,int i64 x.b4] 36)=W3 at hX3 hR3 hO3 HB3 hrl3 |-;obtain ⟨cb,hcb⟩:∃ cb,wr.heap.size=cb:=⟨_,rfl⟩;rw [hcb] at hX3 |-;clear hcb;obtain ⟨p0,p1,p2,p3,p4,p5,p6,p7,p8,p9,p10⟩:=zfg hX3;have r0:W3.cell? ⟨rb,0,none⟩=some (.slice va j vcp):=zf hR3;have hw3:=HB3.out.size;have hO4:=hO3.alloc (.cells #[.string x.s,int i64 1,int i64 1,int i64 x.a1,int i64 x.b1,int i64 x.a2,int i64 x.b2,int i64 x.a3,int i64 x.b3,int i64 x.a4,int i64 x.b4] 36);have hR4:=z3w hR3 (.cells #[.string x.s,int i64 1,int i64 1,int i64 x.a1,int i64 x.b1,int i64 x.a2,int i64 x.b2,int i64 x.a3,int i64 x.b3,int i64 x.a4,int i64 x.b4] 36);have HB4:=Hd (ze HB3.out (.cells #[.string x.s,int i64 1,int i64 1,int i64 x.a1,int i64 x.b1,int i64 x.a2,int i64 x.b2,int i64 x.a3,int i64 x.b3,int i64 x.a4,int i64 x.b4] 36));have hXN:=zk W3 (.cells #[.string x.s,int i64 1,int i64 1,int i64 x.a1,int i64 x.b1,int i64 x.a2,int i64 x.b2,int i64 x.a3,int i64 x.b3,int i64 x.a4,int i64 x.b4] 36);go_wp2_with (at_builtin;refine wpList_append_own _ rfl _ _ 30 rfl Wo.heap.size 36 i2 _ 11 96 Tryz.underlying30 hi2 hx0 hx1 hx2 rfl (by decide) _ _ _ rfl hO4 ⟨W3.heap.size,0,none⟩ 1 1 (z01 (plC x)) rfl rfl (z2u hXN) (by simp [z01,plC,Value.oneCell']) (by unfold maxLen;omega) (by omega) (by simp;omega) ?_)
     intro v' wq hown' hg' _;obtain ⟨ve,vq,rfl,_⟩:=z04 hown';have hR5:=z0e hR4 hg' (z0h (zl hO4 hR4 (by decide)));have s0:wq.cell? ⟨rb,0,none⟩=some (.slice va j vcp):=zf hR5;have sf:wq.frozen? ⟨rb,0,none⟩=false:=zr hR5;have HB5:Hid (Below Wo.heap.size Wo (wq.setCell ⟨rb,0,none⟩ (.slice ve (j+1) vq))):=Hd ((HB4.out.grown hg' (by simp;omega) (fun b hb=>(z0k hO4 hb).1)).setCell (p:=⟨rb,0,none⟩) (by show _<=rb;have:=HRB.out;omega) _);have HX5:Hid ((wq.setCell ⟨rb,0,none⟩ (.slice ve (j+1) vq)).heap[rb]?=some (.cells #[.slice ve (j+1) vq,.bool wh] 32)):=Hd (zM hR5 _)
     have HU5:Hid (z0a (wq.setCell ⟨rb,0,none⟩ (.slice ve (j+1) vq)) Wo.heap.size (.slice ve (j+1) vq) ((cs.take (j+1)).map plC)):=Hd (by
      unfold z0a;rw [HCT.out,List.length_append,HN.out,List.flatMap_append];have h:=z0N hown' hR5 (by decide) (p:=0) (.slice ve (j+1) vq)
      simpa using h)
     clear hown' hg' hR5 hO4 hR4 hXN hO3 hR3 hX3 HB3 HB4 p0 p1 p2 p3 p4 p5 p6 p7 p8 p9 p10 r0 HCT HN HB;go_wp2;go_roundw
     case rel=>exact ⟨j+1,_,by go_num,by omega,HB5,HX5,HU5⟩
     case measure=>simp [intOf];omega
    ·obtain rfl:j=cs.length:=by omega
     have HP6:=Hd (HP.out.kept HB.out)
     have hUb:∀ p ∈ ur,p.1.ownBlock=none\/p.1.ownBlock ≠ vu.ownBlock:=fun p hp=>by
      rcases hb:p.1.ownBlock with _ | b
      ·exact .inl rfl
      ·refine .inr (fun e=>?_);have h1:=(z0k (HP.out.rows.cells p hp) hb).2;have h2:=(z0k HU.out e.symm).1;omega
     rw [List.take_length] at HU;have hcl:(cs.map plC).length=cs.length:=List.length_map _;obtain ⟨vra,vrc,rfl,_⟩:=z04 HP6.out.rows.own;rw [hul] at HP6;obtain ⟨⟨x0,x1,x2,x3,x4⟩,y0,y1,y2,y3,y4⟩:=z7U HP6.out.xb;have r0:wr.cell? ⟨rb,0,none⟩=some vu:=zf HX.out;have r1:wr.cell? ⟨rb,1,none⟩=some (.bool wh):=zf HX.out
     have hOR:wr.ownsRow (w.heap.size+1+1) 32 2 (.slice vra q vrc) q (ur.flatMap zG):=by
      have h:=HP6.out.rows.own;rw [hul] at h;exact h
     have HPA:=Hd (HP6.out.kept (ze (Below.refl wr.heap.size wr) (.cells #[vu,.bool wh] 32)));have hXN:=zk wr (.cells #[vu,.bool wh] 32);have hOA:=hOR.alloc (.cells #[vu,.bool wh] 32);have HUA:=Hd (HU.out.alloc (.cells #[vu,.bool wh] 32))
     have hv1:vu.oneCell'=true:=by
      obtain ⟨a,c,rfl,_⟩:=z04 HU.out;rfl
     have hone:∀ u ∈ [vu,.bool wh],u.oneCell'=true:=fun u hu=>by
      rcases List.mem_cons.1 hu with rfl | hu
      ·exact hv1
      ·rw [List.mem_singleton] at hu;subst hu;rfl
     have hszw:=HP6.out.bel.size;go_wp2_with (at_builtin;refine wpList_append_own _ rfl _ _ 24 rfl (w.heap.size+1+1) 32 i1 _ 2 32 Tryz.underlying24 hi1 hy0 hy1 hy2 rfl (by decide) _ _ _ rfl hOA ⟨wr.heap.size,0,none⟩ 1 1 [vu,.bool wh] rfl rfl (z2u hXN) hone (by unfold maxLen;omega) (by omega) (by simp;omega) ?_)
     intro v' wq hown' hg' _;have HVe:=Hd (z04 hown');obtain ⟨ve,vq,rfl,_⟩:=HVe.out;clear HVe;have hXb:=z0e HPA.out.xb hg' (z0h (zl hOA HPA.out.xb (by decide)));have hBx:=z0e HPA.out.box hg' (z0h (zl hOA HPA.out.box (by decide)));have hRs:=z0e HPA.out.res hg' (z0h (zl hOA HPA.out.res (by decide)));have hCl:=z0e HPA.out.col hg' (z0h (zl hOA HPA.out.col (by decide)));have hwo:w.heap.size+1+1<=Wo.heap.size:=Nat.le_of_lt (bL HP.out.xb)
     have hrows:zD wq (w.heap.size+1+1) (.slice ve (q+1) vq) (ur ++ [(vu,(⟨cs.map plC,wh⟩:R))]):=by
      refine zD.push (U:=.slice vra q vrc) HPA.out.rows hg' ?_ (z0W HUA.out hwo) hUb;rw [hul];exact hown'
     have x3':wq.cell? ⟨w.heap.size+1+1,3,none⟩=some (.slice vra q vrc):=zf hXb;have xf':wq.frozen? ⟨w.heap.size+1+1,3,none⟩=false:=zr hXb
     have HP8:Hid (PlW w ac (some ⟨g,off,none⟩) cc cr t (.slice ve (q+1) vq) (ur ++ [(vu,(⟨cs.map plC,wh⟩:R))]) (wq.setCell ⟨w.heap.size+1+1,3,none⟩ (.slice ve (q+1) vq))):=Hd
      ⟨(HPA.out.bel.grown hg' (by simp;omega) (fun b hb=>by have:=(z0k hOA hb).1;omega)).setCell (p:=⟨w.heap.size+1+1,3,none⟩) (by show w.heap.size<=w.heap.size+1+1;omega) _,
       (Below.heap_setCell _ _ _ _ (by show w.heap.size ≠ w.heap.size+1+1;omega)).trans hBx,
       (Below.heap_setCell _ _ _ _ (by show w.heap.size+1 ≠ w.heap.size+1+1;omega)).trans hRs,
       zM hXb _,
       (Below.heap_setCell _ _ _ _ (by show w.heap.size+1+1+1 ≠ w.heap.size+1+1;omega)).trans hCl,
       zD.set hrows hXb _⟩
     clear hown' hg' hXb hBx hRs hCl hrows hOA hXN hOR HPA HUA HP6 x0 x1 x2 x3 x4 y0 y1 y2 y3 y4 r0 r1 d0 d1 d2 d3 d4 hu' HP HX HU HB hUb;go_wp2;go_roundw
     case rel=>exact ⟨q+1,_,ur ++ [(vu,(⟨cs.map plC,wh⟩:R))],by go_num,by omega,by rw [List.map_append,HUR.out,HRW.out];rfl,HP8⟩
     case measure=>simp [intOf];omega
  ·obtain rfl:q=t.rows.length:=by omega
   have hurr:=HUR.out;rw [List.take_length] at hurr;have HUF:Hid (ur.map (·.2)=(plT t).rows):=Hd hurr;obtain ⟨va,vc,rfl,_⟩:=z04 HP.out.rows.own;rw [hul] at HP;obtain ⟨⟨x0,x1,x2,x3,x4⟩,_⟩:=z7U HP.out.xb;obtain ⟨⟨z0,z1,z2,z3,z4⟩,y0,y1,y2,y3,y4⟩:=z7U HP.out.res;have hbk:=z1U wr (w.heap.size+1) (.slice (some ⟨w.heap.size+1+1+1,0,none⟩) 0 0) (int i64 t.head) (int i64 t.foot) (.slice va t.rows.length vc) (int i64 t.gap);have hlc:=(bL HP.out.col);have hsz:=HP.out.bel.size;have HC:Hid (zO (st5 wr (w.heap.size+1) (.slice (some ⟨w.heap.size+1+1+1,0,none⟩) 0 0) (int i64 t.head) (int i64 t.foot) (.slice va t.rows.length vc) (int i64 t.gap)) w.heap.size (.slice (some ⟨w.heap.size+1+1+1,0,none⟩) 0 0) (plT t).cols):=Hd ⟨rfl,.inr ⟨_,0,#[],rfl,by omega,(hbk.block _ hlc (by omega)).trans HP.out.col,Nat.le_refl _,Nat.zero_le _,rfl,rfl⟩⟩;have HR:Hid (zD (st5 wr (w.heap.size+1) (.slice (some ⟨w.heap.size+1+1+1,0,none⟩) 0 0) (int i64 t.head) (int i64 t.foot) (.slice va t.rows.length vc) (int i64 t.gap)) w.heap.size (.slice va t.rows.length vc) ur):=Hd ((HP.out.rows.bk hbk (by omega)).base (by omega));have HBl:Hid (Below w.heap.size w (st5 wr (w.heap.size+1) (.slice (some ⟨w.heap.size+1+1+1,0,none⟩) 0 0) (int i64 t.head) (int i64 t.foot) (.slice va t.rows.length vc) (int i64 t.gap))):=Hd (HP.out.bel.trans (hbk.below (n:=w.heap.size) hsz (by omega)));clear hbk HP hurr;go_wp2;exact bodyPost_ret (v:=.agg #[.slice (some ⟨w.heap.size+1+1+1,0,none⟩) 0 0,int i64 t.head,int i64 t.foot,.slice va t.rows.length vc,int i64 t.gap]) (by simp [results,Tryz.results8,go_sem,z0,z1,z2,z3,z4]) rfl ⟨_,_,_,rfl,⟨ur,HUF.out,HC.out,HR.out⟩,HBl.out⟩
end
end Go.Proofs.YtggmjiddadjilalGreat
