/-
  PROVED HERE: where each cell of a drawn table's grid stands: in its row, behind the one ahead of it, at the first column at which it is free; the grid is ok; it has as many cells as the table. Also: 6 more texts of the same proof.
-/
import Derived.Test.YtggmjiddadjilaeGreatC12
import Derived.Test.YtggmjiddadjilaeGreatC23
import Derived.Test.YtggmjiddadjilaeGreatC19
import Derived.Test.YtggmjiddadjilaeGreatC22
import Derived.Test.YtggmjiddadjilaeGreatC9
import Derived.Laws.BitsLemmas
namespace Go.Proofs.YtggmjiddadjilaeGreat
theorem getD_snoc_lt {α:Type} {l:List α} {x d:α} {k:Nat} (h:k < l.length):(l ++ [x]).getD k d=l.getD k d:=by
 simp [List.getD,List.getElem?_append_left h]
theorem getD_snoc_eq {α:Type} {l:List α} {x d:α}:(l ++ [x]).getD l.length d=x:=by simp [List.getD]
theorem take_snoc_le {α:Type} {l:List α} {x:α} {k:Nat} (h:k≤l.length):(l ++ [x]).take k=l.take k:=by
 rw [List.take_append_of_le_length h]
theorem atCol_place (gs:List GC) (r i:Nat) (e:Int) (x:C) (c:Int):atCol (place gs r i e x) c=atCol (bare r i e x) c:=by simp only [place,atCol]
theorem col_place (gs:List GC) (r i:Nat) (e:Int) (x:C):(place gs r i e x).col=(ffree gs (bare r i e x):Int):=by simp only [place,atCol]
structure Laid (t:T) (gs:List GC) (k:Nat):Prop where
 ex:∃ r j:Nat,r < t.rows.length∧j < (t.rows.getD r dR).cells.length∧gs.getD k dG=place (gs.take k) r j (endOf t r) ((t.rows.getD r dR).cells.getD j dC)
 free:freeG (gs.take k) (gs.getD k dG)=true
 first:∀ c:Nat,(c:Int) < (gs.getD k dG).col→freeG (gs.take k) (atCol (gs.getD k dG) c)=false
 after:0 < k→(gs.getD (k - 1) dG).row < (gs.getD k dG).row∨(gs.getD (k - 1) dG).row=(gs.getD k dG).row∧(gs.getD (k - 1) dG).ins+1=(gs.getD k dG).ins
theorem Laid.snoc {t:T} {gs:List GC} {k:Nat} (x:GC) (hk:k < gs.length) (h:Laid t gs k):Laid t (gs ++ [x]) k:=by
 have e1:(gs ++ [x]).getD k dG=gs.getD k dG:=getD_snoc_lt hk
 have e2:(gs ++ [x]).take k=gs.take k:=take_snoc_le (by omega)
 have e3:(gs ++ [x]).getD (k - 1) dG=gs.getD (k - 1) dG:=getD_snoc_lt (by omega)
 refine ⟨?_,?_,?_,?_⟩
 ·rw [e1,e2];exact h.ex
 ·rw [e1,e2];exact h.free
 ·rw [e1,e2];exact h.first
 ·rw [e1,e3];exact h.after
structure LaidTo (t:T) (gs:List GC) (r i:Nat):Prop where
 part:Part t gs r i
 laid:∀ k,k < gs.length→Laid t gs k
 last:0 < gs.length→(gs.getD (gs.length - 1) dG).row < r∨(gs.getD (gs.length - 1) dG).row=r∧(gs.getD (gs.length - 1) dG).ins+1=i
theorem LaidTo.next {t:T} {gs:List GC} {r i:Nat} (h:LaidTo t gs r i) (hl:Low t) (hr:r < t.rows.length) (hi:i < (t.rows.getD r dR).cells.length) :
  LaidTo t (gs ++ [place gs r i (endOf t r) ((t.rows.getD r dR).cells.getD i dC)]) r (i+1):=by
 obtain ⟨⟨h1,h2,h3,h4⟩,hp⟩:=h.part.next hl hr hi
 refine ⟨hp,?_,?_⟩
 ·intro k hk
  rw [List.length_append,List.length_singleton] at hk
  by_cases hk2:k < gs.length
  ·exact (h.laid k hk2).snoc _ hk2
  ·obtain rfl:k=gs.length:=by omega
   have e2:∀ x:GC,(gs ++ [x]).take gs.length=gs:=fun x=>by rw [take_snoc_le (Nat.le_refl _),List.take_length]
   refine ⟨?_,?_,?_,?_⟩
   ·rw [getD_snoc_eq,e2];exact ⟨r,i,hr,hi,rfl⟩
   ·rw [getD_snoc_eq,e2];exact h2
   ·rw [getD_snoc_eq,e2]
    intro c hc
    rw [col_place] at hc
    rw [atCol_place]
    exact h3 c (Int.ofNat_lt.1 hc)
   ·intro h0
    rw [getD_snoc_eq,getD_snoc_lt (by omega)]
    exact h.last h0
 ·intro _
  rw [List.length_append,List.length_singleton,Nat.add_sub_cancel,getD_snoc_eq]
  refine .inr ⟨rfl,?_⟩
  show (i:Int)+1=((i+1:Nat):Int)
  omega
theorem LaidTo.zero (t:T):LaidTo t [] 0 0:=⟨Part.zero t,fun _ hk=>absurd hk (Nat.not_lt_zero _),fun h=>absurd h (Nat.lt_irrefl _)⟩
theorem LaidTo.rowEnd {t:T} {gs:List GC} {r:Nat} (h:LaidTo t gs r (t.rows.getD r dR).cells.length):LaidTo t gs (r+1) 0:=by
 refine ⟨h.part.rowEnd,h.laid,fun h0=>.inl ?_⟩
 rcases h.last h0 with h1 | ⟨h1,_⟩ <;> omega
theorem laid_row {t:T} (hl:Low t) {r:Nat} (hr:r < t.rows.length) (h:LaidTo t (gridTo t r) r 0):∀ i,i≤(t.rows.getD r dR).cells.length→LaidTo t (rowTo (endOf t r) r (t.rows.getD r dR).cells (gridTo t r) i) r i
 | 0,_=>h
 | i+1,hi=>LaidTo.next (laid_row hl hr h i (by omega)) hl hr (by omega)
theorem laid_grid {t:T} (hl:Low t):∀ r,r≤t.rows.length→LaidTo t (gridTo t r) r 0
 | 0,_=>LaidTo.zero t
 | r+1,hr=>(laid_row hl (by omega) (laid_grid hl r (by omega)) _ (Nat.le_refl _)).rowEnd
theorem laid_of {t:T} (hl:Low t) {k:Nat} (hk:k < (gridOf t).length):Laid t (gridOf t) k:=(laid_grid hl _ (Nat.le_refl _)).laid k hk
theorem stands_of {t:T} (hl:Low t) {a:GC} (ha:a ∈ gridOf t):Stands t.rows.length a:=((part_grid hl _ (Nat.le_refl _)).stands a ha).1
theorem colsOf_cons (m:Int) (a:GC) (gs:List GC):colsOf m (a :: gs)=colsOf (max m (a.col+a.cols)) gs:=rfl
theorem colsOf_ge:∀ (gs:List GC) (m:Int),m≤colsOf m gs
 | [],m=>Int.le_refl _
 | a :: gs,m=>by rw [colsOf_cons];exact Int.le_trans (Int.le_max_left _ _) (colsOf_ge gs _)
theorem colsOf_mem:∀ {gs:List GC} {m:Int} {a:GC},a ∈ gs→a.col+a.cols≤colsOf m gs
 | b :: gs,m,a,h=>by
  rw [colsOf_cons]
  rcases List.mem_cons.1 h with rfl | h
  ·exact Int.le_trans (Int.le_max_right _ _) (colsOf_ge gs _)
  ·exact colsOf_mem h
theorem colsOf_le:∀ {gs:List GC} {m B:Int},m≤B→(∀ a ∈ gs,a.col+a.cols≤B)→colsOf m gs≤B
 | [],m,B,h,_=>h
 | a :: gs,m,B,h,h2=>by
  rw [colsOf_cons]
  exact colsOf_le (Int.max_le.2 ⟨h,h2 a (by simp)⟩) (fun b hb=>h2 b (by simp [hb]))
theorem cols_bounds {t:T} (hl:Low t) (hc:t.cols.length≤8):1≤colsOf (max 1 (t.cols.length:Int)) (gridOf t)∧colsOf (max 1 (t.cols.length:Int)) (gridOf t)≤88∧(t.cols.length:Int)≤colsOf (max 1 (t.cols.length:Int)) (gridOf t):=by
 have h1:=colsOf_ge (gridOf t) (max 1 (t.cols.length:Int))
 have h2:colsOf (max 1 (t.cols.length:Int)) (gridOf t)≤88:=colsOf_le (by omega) (fun a ha=>by have:=stands_of hl ha;unfold Stands at this;omega)
 omega
end Go.Proofs.YtggmjiddadjilaeGreat
namespace Go.Proofs.YtggmjiddadjilaeGreat
open Go.RowKit
def TA (w:World) (z:Nat) (ac ar:Option Addr) (cc cr:Nat) (t:T):Prop:=ColsAt w z (.slice ac t.cols.length cc) t.cols∧RowsAt w z (.slice ar t.rows.length cr) t.rows
theorem TA.kept {w w':World} {z:Nat} {ac ar:Option Addr} {cc cr:Nat} {t:T} (h:TA w z ac ar cc cr t) (hb:Below w.heap.size w w'):TA w' z ac ar cc cr t:=⟨h.1.kept hb,h.2.kept hb⟩
def St (w:World) (tb:Nat) (ac ar:Option Addr) (cc cr:Nat) (t:T) (W:World):Prop:=Below w.heap.size w W∧TA W w.heap.size ac ar cc cr t∧W.heap[tb]?=some (.cells #[.slice ac t.cols.length cc,.int .i64 t.head,.int .i64 t.foot,.slice ar t.rows.length cr,.int .i64 t.gap] 26)
theorem St.kept {w W W':World} {tb:Nat} {ac ar:Option Addr} {cc cr:Nat} {t:T} (h:St w tb ac ar cc cr t W) (hb:Below W.heap.size W W'):St w tb ac ar cc cr t W' :=
 ⟨h.1.trans (hb.mono h.1.size),h.2.1.kept hb,(hb.block tb (bL h.2.2)).trans h.2.2⟩
theorem St.at {w W:World} {tb:Nat} {ac ar:Option Addr} {cc cr:Nat} {t:T} (h:St w tb ac ar cc cr t W):(W.cell? ⟨tb,0,none⟩=some (.slice ac t.cols.length cc)∧W.cell? ⟨tb,1,none⟩=some (.int .i64 t.head)∧W.cell? ⟨tb,2,none⟩=some (.int .i64 t.foot)∧W.cell? ⟨tb,3,none⟩=some (.slice ar t.rows.length cr)∧W.cell? ⟨tb,4,none⟩=some (.int .i64 t.gap)):=(fiveZ h.2.2).1
theorem gOf_gok {t:T} (hD:Drawn t):∀ x ∈ (gOf t).cells,GOk x:=by
 unfold gOf
 split
 ·rename_i h
  have hl:=low_of h hD
  exact fun x hx=>(stands_of hl hx).gok hl.rows
 ·intro x hx
  cases hx
def SGr (w:World) (tb gb:Nat) (ac ar:Option Addr) (cc cr:Nat) (t:T) (ag:Option Addr) (cg:Nat) (W:World):Prop :=
 St w tb ac ar cc cr t W∧GsAt W w.heap.size (.slice ag (gOf t).cells.length cg) (gOf t).cells∧W.heap[gb]?=some (.cells #[.int .i64 (gOf t).rows,.int .i64 (gOf t).cols,.slice ag (gOf t).cells.length cg] 36)
theorem SGr.kept {w W W':World} {tb gb:Nat} {ac ar ag:Option Addr} {cc cr cg:Nat} {t:T} (h:SGr w tb gb ac ar cc cr t ag cg W) (hb:Below W.heap.size W W'):SGr w tb gb ac ar cc cr t ag cg W' :=
 ⟨h.1.kept hb,h.2.1.kept hb,(hb.block gb (bL h.2.2)).trans h.2.2⟩
theorem SGr.at {w W:World} {tb gb:Nat} {ac ar ag:Option Addr} {cc cr cg:Nat} {t:T} (h:SGr w tb gb ac ar cc cr t ag cg W):W.cell? ⟨gb,0,none⟩=some (.int .i64 (gOf t).rows)∧W.cell? ⟨gb,1,none⟩=some (.int .i64 (gOf t).cols)∧W.cell? ⟨gb,2,none⟩=some (.slice ag (gOf t).cells.length cg) :=
 ⟨cellB h.2.2,cellB h.2.2,cellB h.2.2⟩
theorem own_slice {w:World} {base:Nat} {v:Value} {gs:List GC} (h:OwnG w base v gs):∃ a cap,v=.slice a gs.length cap:=by
 rcases h.2 with ⟨rfl,hn⟩ | ⟨g,cap,cur,rfl,_⟩
 ·exact ⟨none,0,by rw [hn]⟩
 ·exact ⟨_,cap,rfl⟩
theorem gOf_ok {t:T} (h:tblB t=true):gOf t=⟨t.rows.length,colsOf (max 1 (t.cols.length:Int)) (gridOf t),gridOf t⟩:=by unfold gOf;rw [if_pos h]
theorem gOf_no {t:T} (h:tblB t=false):gOf t=⟨0,0,[]⟩:=by unfold gOf;rw [if_neg (by rw [h];simp)]
def SCe (w:World) (tb gb cb:Nat) (ac ar:Option Addr) (cc cr:Nat) (t:T) (ag:Option Addr) (cg:Nat) (x:GC) (W:World):Prop :=
 SGr w tb gb ac ar cc cr t ag cg W∧W.heap[cb]?=some (.cells #[.int .i64 x.row,.int .i64 x.col,.int .i64 x.rows,.int .i64 x.cols,.int .i64 x.ins] 49)
theorem SCe.kept {w W W':World} {tb gb cb:Nat} {ac ar ag:Option Addr} {cc cr cg:Nat} {t:T} {x:GC} (h:SCe w tb gb cb ac ar cc cr t ag cg x W) (hb:Below W.heap.size W W'):SCe w tb gb cb ac ar cc cr t ag cg x W' :=
 ⟨h.1.kept hb,(hb.block cb (bL h.2)).trans h.2⟩
theorem SCe.at {w W:World} {tb gb cb:Nat} {ac ar ag:Option Addr} {cc cr cg:Nat} {t:T} {x:GC} (h:SCe w tb gb cb ac ar cc cr t ag cg x W):W.cell? ⟨cb,0,none⟩=some (.int .i64 x.row)∧W.cell? ⟨cb,1,none⟩=some (.int .i64 x.col)∧W.cell? ⟨cb,2,none⟩=some (.int .i64 x.rows)∧W.cell? ⟨cb,3,none⟩=some (.int .i64 x.cols)∧W.cell? ⟨cb,4,none⟩=some (.int .i64 x.ins) :=
 ⟨cellB h.2,cellB h.2,cellB h.2,cellB h.2,cellB h.2⟩
def Small (x:GC):Prop:=(0≤x.row∧x.row≤8)∧(0≤x.col∧x.col≤84)∧(1≤x.rows∧x.rows≤3)∧(1≤x.cols∧x.cols≤4)∧0≤x.ins∧x.ins≤4
theorem Stands.small {n:Nat} {a:GC} (hn:n≤8) (h:Stands n a):Small a:=by
 unfold Stands at h
 unfold Small
 omega
def passTo (p:GC→Int) (gap s:Int) (gs:List GC) (l:List Int):Nat→List Int
 | 0=>l
 | k+1=>if (gs.getD k dG).cols=s then wideL (passTo p gap s gs l k) (gs.getD k dG).col.toNat (gs.getD k dG).cols.toNat gap (p (gs.getD k dG)) else passTo p gap s gs l k
def needTo (p:GC→Int) (gap:Int) (gs:List GC) (l:List Int):Nat→List Int
 | 0=>l
 | s+1=>passTo p gap ((s+1:Nat):Int) gs (needTo p gap gs l s) gs.length
theorem passTo_len (p:GC→Int) (gap s:Int) (gs:List GC) (l:List Int):∀ k,(passTo p gap s gs l k).length=l.length
 | 0=>rfl
 | k+1=>by rw [passTo];split;rw [wideL_len];exact passTo_len p gap s gs l k;exact passTo_len p gap s gs l k
theorem needTo_len (p:GC→Int) (gap:Int) (gs:List GC) (l:List Int):∀ s,(needTo p gap gs l s).length=l.length
 | 0=>rfl
 | s+1=>by rw [needTo,passTo_len,needTo_len p gap gs l s]
def textOf (t:T) (x:GC):ByteArray:=((t.rows.getD x.row.toNat dR).cells.getD x.ins.toNat dC).s
structure Cel (t:T) (C:Nat) (x:GC):Prop where
 ex:∃ rn jn cn mn:Nat,x.row=rn∧x.ins=jn∧x.col=cn∧x.cols=mn∧rn < t.rows.length∧jn < (t.rows.getD rn dR).cells.length∧cn+mn≤C∧1≤mn∧mn≤4
 gap:0≤t.gap∧t.gap≤3
 rows:0≤x.rows∧x.rows≤8
theorem cel_of {t:T} (hD:Drawn t):(gOf t).cells.length≤40∧∃ C:Nat,(gOf t).cols=C∧C≤88∧∀ k,k < (gOf t).cells.length→Cel t C ((gOf t).cells.getD k dG):=by
 cases h:tblB t with
 | false=>rw [gOf_no h];exact ⟨by simp,0,rfl,by omega,fun k hk=>absurd hk (Nat.not_lt_zero _)⟩
 | true =>
  have hl:=low_of h hD
  have h8:=hl.rows
  have h40:=grid_len hl t.rows.length
  have hg:0≤t.gap∧t.gap≤3:=by
   simp only [tblB,inB,Bool.and_eq_true,decide_eq_true_eq] at h
   exact h.2.2.1
  have hc:t.cols.length≤8:=by
   simp only [tblB,colsB,Bool.and_eq_true,decide_eq_true_eq] at h
   omega
  have hcb:=cols_bounds hl hc
  rw [gOf_ok h]
  refine ⟨by show (gridTo t t.rows.length).length≤40;omega,(colsOf (max 1 (t.cols.length:Int)) (gridOf t)).toNat,by show colsOf (max 1 (t.cols.length:Int)) (gridOf t)=_;omega,by omega,fun k hk=>⟨?_,hg,?_⟩⟩
  ·have hk':k < (gridOf t).length:=hk
   obtain ⟨r,j,hr,hj,e⟩:=(laid_of hl hk').ex
   have hst:=stands_of hl (getD_mem' (d:=dG) hk')
   have hm:=colsOf_mem (m:=max 1 (t.cols.length:Int)) (getD_mem' (d:=dG) hk')
   have e1:((gridOf t).getD k dG).row=r:=by rw [e];rfl
   have e2:((gridOf t).getD k dG).ins=j:=by rw [e];rfl
   unfold Stands at hst
   show ∃ rn jn cn mn:Nat,((gridOf t).getD k dG).row=rn∧((gridOf t).getD k dG).ins=jn∧((gridOf t).getD k dG).col=cn∧((gridOf t).getD k dG).cols=mn∧_
   refine ⟨r,j,((gridOf t).getD k dG).col.toNat,((gridOf t).getD k dG).cols.toNat,e1,e2,by omega,by omega,hr,hj,by omega,by omega,by omega⟩
  ·have hk':k < (gridOf t).length:=hk
   have hst:=stands_of hl (getD_mem' (d:=dG) hk')
   unfold Stands at hst
   show 0≤((gridOf t).getD k dG).rows∧((gridOf t).getD k dG).rows≤8
   omega
theorem pass_up {t:T} {C:Nat} {gs:List GC} {p:GC→Int} {l:List Int} {B s:Int} (hC:∀ k,k < gs.length→Cel t C (gs.getD k dG)) (hl:l.length=C) (hp:∀ x,p x≤30) (hb:UpB l B) (hB:B+30 * gs.length≤50000):∀ k,k≤gs.length→UpB (passTo p t.gap s gs l k) (B+30 * (k:Int))
 | 0,_=>by intro i hi;have:=hb i hi;show 0≤l.getD i 0∧l.getD i 0≤_;omega
 | k+1,hk=>by
  have ih:=pass_up (s:=s) hC hl hp hb hB k (by omega)
  have hx:=hC k (by omega)
  rw [passTo]
  split
  ·obtain ⟨rn,jn,cn,mn,e1,e2,e3,e4,h1,h2,h3,h4,h5⟩:=hx.ex
   rw [e3,e4,Int.toNat_natCast,Int.toNat_natCast]
   have:=wideL_upB ih (by omega) (by rw [passTo_len,hl];exact h3) ⟨h4,h5⟩ hx.gap (hp (gs.getD k dG)) (c:=cn) (m:=mn)
   intro i hi
   have:=this i hi
   omega
  ·intro i hi
   have:=ih i hi
   omega
theorem need_up {t:T} {C:Nat} {gs:List GC} {p:GC→Int} {l:List Int} (hC:∀ k,k < gs.length→Cel t C (gs.getD k dG)) (h40:gs.length≤40) (hl:l.length=C) (hp:∀ x,p x≤30) (hb:UpB l 0):∀ s,s≤4→UpB (needTo p t.gap gs l s) (1200 * (s:Int))
 | 0,_=>by intro i hi;have:=hb i hi;show 0≤l.getD i 0∧l.getD i 0≤_;omega
 | s+1,hs=>by
  have ih:=need_up hC h40 hl hp hb s (by omega)
  have:=pass_up (s:=((s+1:Nat):Int)) hC (by rw [needTo_len];exact hl) hp ih (by omega) gs.length (Nat.le_refl _)
  intro i hi
  have:=this i hi
  rw [needTo]
  omega
def LeL (a b:List Int):Prop:=a.length=b.length∧∀ i,i < a.length→a.getD i 0≤b.getD i 0
theorem LeL.refl (a:List Int):LeL a a:=⟨rfl,fun _ _=>Int.le_refl _⟩
theorem LeL.trans {a b c:List Int} (h:LeL a b) (k:LeL b c):LeL a c:=⟨h.1.trans k.1,fun i hi=>Int.le_trans (h.2 i hi) (k.2 i (by rw [← h.1];exact hi))⟩
theorem sum_le:∀ {a b:List Int},LeL a b→a.sum≤b.sum
 | [],[],_=>Int.le_refl _
 | [],_ :: _,h=>absurd h.1 (by simp)
 | _ :: _,[],h=>absurd h.1 (by simp)
 | x :: a,y :: b,h=>by
  have h0:=h.2 0 (by simp)
  have:=sum_le (a:=a) (b:=b) ⟨by have:=h.1;simpa using this,fun i hi=>by have:=h.2 (i+1) (by simpa using hi);simpa using this⟩
  simp at h0
  rw [List.sum_cons,List.sum_cons]
  omega
theorem LeL.sub {a b:List Int} (h:LeL a b) {c m:Nat} (hc:c+m≤a.length):LeL (subL a c m) (subL b c m):=by
 have hb:c+m≤b.length:=by rw [← h.1];exact hc
 refine ⟨by rw [subL_len hc,subL_len hb],fun i hi=>?_⟩
 rw [subL_len hc] at hi
 rw [subL_get hc hi,subL_get hb hi]
 exact h.2 _ (by omega)
theorem sum_zip:∀ (a b:List Int),a.length=b.length→(List.zipWith (·+·) a b).sum=a.sum+b.sum
 | [],[],_=>by simp
 | [],_ :: _,h=>absurd h (by simp)
 | _ :: _,[],h=>absurd h (by simp)
 | x :: a,y :: b,h=>by
  rw [List.zipWith_cons_cons,List.sum_cons,List.sum_cons,List.sum_cons,sum_zip a b (by simpa using h)]
  omega
theorem ext_get {a b:List Int} (h:a.length=b.length) (hh:∀ i,i < a.length→a.getD i 0=b.getD i 0):a=b:=by
 apply List.ext_getElem h
 intro i h1 h2
 have:=hh i h1
 simpa [List.getD,h1,h2] using this
theorem sub_addTo {l more:List Int} {c m:Nat} (hc:c+m≤l.length) (hm:more.length=m):subL (addTo l c more m) c m=List.zipWith (·+·) (subL l c m) more:=by
 have hc':c+m≤(addTo l c more m).length:=by rw [addTo_len];exact hc
 refine ext_get (by rw [subL_len hc',List.length_zipWith,subL_len hc,hm];omega) (fun i hi=>?_)
 rw [subL_len hc'] at hi
 rw [subL_get hc' hi,addTo_in l c more m hi (by omega),← subL_get hc hi]
 have h1:i < (subL l c m).length:=by rw [subL_len hc];exact hi
 have h2:i < more.length:=by omega
 have h3:i < (List.zipWith (·+·) (subL l c m) more).length:=by rw [List.length_zipWith];omega
 simp only [List.getD,List.getElem?_eq_getElem h1,List.getElem?_eq_getElem h2,List.getElem?_eq_getElem h3,Option.getD_some,List.getElem_zipWith]
theorem wideL_ge {l:List Int} {c m:Nat} {gap need:Int} (hb:UpB l 50000) (hc:c+m≤l.length) (hm:1≤m∧m≤4) (hg:0≤gap∧gap≤3) (hn:need≤30):LeL l (wideL l c m gap need):=by
 refine ⟨(wideL_len _ _ _ _ _).symm,fun i hi=>?_⟩
 unfold wideL
 split
 ·exact Int.le_refl _
 ·rename_i hl
  obtain ⟨hok,_⟩:=lack_ok hb hc hm hg hn (by omega:0 < lackV l c m gap need)
  have hsl:=shareL_len hok
  rw [subL_len hc] at hsl
  by_cases hin:c≤i∧i < c+m
  ·obtain ⟨j,rfl⟩:∃ j,i=c+j:=⟨i - c,by omega⟩
   rw [addTo_in l c _ m (by omega) (by omega)]
   have h1:=shareL_small (t:=lackV l c m gap need) (l:=subL l c m) j (by omega)
   omega
  ·rw [addTo_out l c _ m (fun j hj e=>hin ⟨by omega,by omega⟩)]
   exact Int.le_refl _
theorem wideL_has {l:List Int} {c m:Nat} {gap need:Int} (hb:UpB l 50000) (hc:c+m≤l.length) (hm:1≤m∧m≤4) (hg:0≤gap∧gap≤3) (hn:need≤30):need≤(subL (wideL l c m gap need) c m).sum+gap * ((m:Int) - 1):=by
 unfold wideL
 split
 ·rename_i hl
  unfold lackV at hl
  omega
 ·rename_i hl
  obtain ⟨hok,_⟩:=lack_ok hb hc hm hg hn (by omega:0 < lackV l c m gap need)
  have hsl:=shareL_len hok
  have hsum:=share_sum hok (by rw [subL_len hc];omega)
  have hlk:lackV l c m gap need=need - ((subL l c m).sum+gap * ((m:Int) - 1)):=rfl
  have hsl2:=hsl
  rw [subL_len hc] at hsl2
  rw [sub_addTo hc hsl2,sum_zip _ _ (by rw [hsl]),hsum]
  omega
def hasV (l:List Int) (gap:Int) (x:GC):Int:=(subL l x.col.toNat x.cols.toNat).sum+gap * (x.cols - 1)
theorem hasV_le {t:T} {C:Nat} {x:GC} (hx:Cel t C x) {a b:List Int} (h:LeL a b) (ha:a.length=C) (gap:Int):hasV a gap x≤hasV b gap x:=by
 obtain ⟨rn,jn,cn,mn,e1,e2,e3,e4,h1,h2,h3,h4,h5⟩:=hx.ex
 unfold hasV
 rw [e3,e4,Int.toNat_natCast,Int.toNat_natCast]
 have:=sum_le (h.sub (c:=cn) (m:=mn) (by omega))
 omega
theorem pass_ge {t:T} {C:Nat} {gs:List GC} {p:GC→Int} {l:List Int} {B s:Int} (hC:∀ k,k < gs.length→Cel t C (gs.getD k dG)) (hl:l.length=C) (hp:∀ x,p x≤30) (hb:UpB l B) (hB:B+30 * gs.length≤50000) :
  ∀ k,k≤gs.length→LeL l (passTo p t.gap s gs l k)∧∀ j,j < k→(gs.getD j dG).cols=s→p (gs.getD j dG)≤hasV (passTo p t.gap s gs l k) t.gap (gs.getD j dG)
 | 0,_=>⟨LeL.refl _,fun j hj=>absurd hj (Nat.not_lt_zero _)⟩
 | k+1,hk=>by
  obtain ⟨ih1,ih2⟩:=pass_ge (s:=s) hC hl hp hb hB k (by omega)
  have hx:=hC k (by omega)
  have hu:UpB (passTo p t.gap s gs l k) 50000:=fun i hi=>by have:=pass_up (s:=s) hC hl hp hb hB k (by omega) i hi;omega
  have hlen:(passTo p t.gap s gs l k).length=C:=by rw [passTo_len,hl]
  rw [passTo]
  by_cases hs:(gs.getD k dG).cols=s
  ·rw [if_pos hs]
   obtain ⟨rn,jn,cn,mn,e1,e2,e3,e4,h1,h2,h3,h4,h5⟩:=hx.ex
   have hge:=wideL_ge hu (c:=cn) (m:=mn) (by omega) ⟨h4,h5⟩ hx.gap (hp (gs.getD k dG))
   have hhas:=wideL_has hu (c:=cn) (m:=mn) (by omega) ⟨h4,h5⟩ hx.gap (hp (gs.getD k dG))
   rw [e3,e4,Int.toNat_natCast,Int.toNat_natCast]
   refine ⟨ih1.trans hge,fun j hj hjs=>?_⟩
   by_cases hjk:j=k
   ·subst hjk
    unfold hasV
    rw [e3,e4,Int.toNat_natCast,Int.toNat_natCast]
    exact hhas
   ·exact Int.le_trans (ih2 j (by omega) hjs) (hasV_le (hC j (by omega)) hge hlen t.gap)
  ·rw [if_neg hs]
   refine ⟨ih1,fun j hj hjs=>ih2 j ?_ hjs⟩
   by_cases hjk:j=k
   ·subst hjk;exact absurd hjs hs
   ·omega
theorem need_ge {t:T} {C:Nat} {gs:List GC} {p:GC→Int} {l:List Int} (hC:∀ k,k < gs.length→Cel t C (gs.getD k dG)) (h40:gs.length≤40) (hl:l.length=C) (hp:∀ x,p x≤30) (hb:UpB l 0) :
  ∀ s,s≤4→LeL l (needTo p t.gap gs l s)∧∀ j,j < gs.length→(gs.getD j dG).cols≤(s:Int)→p (gs.getD j dG)≤hasV (needTo p t.gap gs l s) t.gap (gs.getD j dG)
 | 0,_=>⟨LeL.refl _,fun j hj h0=>by obtain ⟨rn,jn,cn,mn,e1,e2,e3,e4,h1,h2,h3,h4,h5⟩:=(hC j hj).ex;omega⟩
 | s+1,hs=>by
  obtain ⟨ih1,ih2⟩:=need_ge hC h40 hl hp hb s (by omega)
  have hu:=need_up hC h40 hl hp hb s (by omega)
  have hlen:(needTo p t.gap gs l s).length=C:=by rw [needTo_len,hl]
  obtain ⟨g1,g2⟩:=pass_ge (s:=((s+1:Nat):Int)) hC hlen hp hu (by omega) gs.length (Nat.le_refl _)
  rw [needTo]
  refine ⟨ih1.trans g1,fun j hj hjs=>?_⟩
  by_cases he:(gs.getD j dG).cols=((s+1:Nat):Int)
  ·exact g2 j hj he
  ·exact Int.le_trans (ih2 j hj (by omega)) (hasV_le (hC j hj) g1 hlen t.gap)
theorem kind_small {a:Int} (h:-9223372036854775808≤a∧a≤9223372036854775807):IntKind.i64.wrap a=a:=by rw [IntKind.wrap_i64];omega
theorem slice_facts {cn m C:Nat} (h:cn+(m+1)≤C) (hC:C≤88):(cn:Int)≤(cn:Int)+((m:Int)+1)∧(cn:Int)+((m:Int)+1)≤(C:Int)∧(0:Int)≤(cn:Int)+((m:Int)+1)∧((cn:Int)+((m:Int)+1)).toNat=cn+(m+1)∧cn+(m+1) - cn=m+1∧¬ C=cn∧wrap64 ((cn:Int)+((m:Int)+1))=(cn:Int)+((m:Int)+1)∧IntKind.i64.wrap ((cn:Int)+((m:Int)+1))=(cn:Int)+((m:Int)+1):=by
 have e:-9223372036854775808≤(cn:Int)+((m:Int)+1)∧(cn:Int)+((m:Int)+1)≤9223372036854775807:=by omega
 exact ⟨by omega,by omega,by omega,by omega,by omega,by omega,W_small e,kind_small e⟩
theorem slice_facts2 {cn m C:Nat} (h:cn+(m+1)≤C) (hC:cn+(m+1)≤88):(cn:Int)≤(cn:Int)+((m:Int)+1)∧(cn:Int)+((m:Int)+1)≤(C:Int)∧(0:Int)≤(cn:Int)+((m:Int)+1)∧((cn:Int)+((m:Int)+1)).toNat=cn+(m+1)∧cn+(m+1) - cn=m+1∧¬ C=cn∧wrap64 ((cn:Int)+((m:Int)+1))=(cn:Int)+((m:Int)+1)∧IntKind.i64.wrap ((cn:Int)+((m:Int)+1))=(cn:Int)+((m:Int)+1):=by
 have e:-9223372036854775808≤(cn:Int)+((m:Int)+1)∧(cn:Int)+((m:Int)+1)≤9223372036854775807:=by omega
 exact ⟨by omega,by omega,by omega,by omega,by omega,by omega,W_small e,kind_small e⟩
theorem idx_facts {cn j C:Nat} (h:cn+j < C) (hC:C≤88):(0:Int)≤(cn:Int)+(j:Int)∧(cn:Int)+(j:Int) < (C:Int)∧((cn:Int)+(j:Int)).toNat=cn+j∧wrap64 ((cn:Int)+(j:Int))=(cn:Int)+(j:Int)∧IntKind.i64.wrap ((cn:Int)+(j:Int))=(cn:Int)+(j:Int):=by
 have e:-9223372036854775808≤(cn:Int)+(j:Int)∧(cn:Int)+(j:Int)≤9223372036854775807:=by omega
 exact ⟨by omega,by omega,by omega,W_small e,kind_small e⟩
def zeroL (n:Nat):List Int:=List.replicate n 0
theorem zero_up (n:Nat):UpB (zeroL n) 0:=by
 intro i hi
 simp [zeroL] at hi
 simp [zeroL,List.getD,hi]
def Ws (w:World) (z gb:Nat) (ac ar:Option Addr) (cc cr:Nat) (t:T) (ag:Option Addr) (cg:Nat) (W:World):Prop :=
 Below w.heap.size w W∧TA W z ac ar cc cr t∧W.heap[w.heap.size]?=some (.cells #[.slice ac t.cols.length cc,.int .i64 t.head,.int .i64 t.foot,.slice ar t.rows.length cr,.int .i64 t.gap] 26)∧GsAt W w.heap.size (.slice ag (gOf t).cells.length cg) (gOf t).cells∧W.heap[gb]?=some (.cells #[.int .i64 (gOf t).rows,.int .i64 (gOf t).cols,.slice ag (gOf t).cells.length cg] 36)
theorem Ws.kept {w W W':World} {z gb:Nat} {ac ar ag:Option Addr} {cc cr cg:Nat} {t:T} (h:Ws w z gb ac ar cc cr t ag cg W) (hb:Below W.heap.size W W'):Ws w z gb ac ar cc cr t ag cg W' :=
 ⟨h.1.trans (hb.mono h.1.size),h.2.1.kept hb,(hb.block _ (bL h.2.2.1)).trans h.2.2.1,h.2.2.2.1.kept hb,(hb.block gb (bL h.2.2.2.2)).trans h.2.2.2.2⟩
theorem Ws.at {w W:World} {z gb:Nat} {ac ar ag:Option Addr} {cc cr cg:Nat} {t:T} (h:Ws w z gb ac ar cc cr t ag cg W):W.cell? ⟨w.heap.size,3,none⟩=some (.slice ar t.rows.length cr)∧W.cell? ⟨w.heap.size,4,none⟩=some (.int .i64 t.gap)∧W.cell? ⟨gb,1,none⟩=some (.int .i64 (gOf t).cols)∧W.cell? ⟨gb,2,none⟩=some (.slice ag (gOf t).cells.length cg) :=
 ⟨cellB h.2.2.1,cellB h.2.2.1,cellB h.2.2.2.2,cellB h.2.2.2.2⟩
theorem sub_facts {L:List Int} {B:Int} (hub:UpB L B) (hB:B≤50000) {cn m C:Nat} (hll:L.length=C) (h3:cn+m≤C) (hm:m≤4):(subL L cn m).all wtB=true∧(0≤(subL L cn m).sum∧(subL L cn m).sum≤200000)∧(subL L cn m).length=m:=by
 have hc:cn+m≤L.length:=by omega
 have hb:∀ x ∈ subL L cn m,0≤x∧x≤50000:=fun x hx=>by have:=hub.mem (subL_mem hx);omega
 have hs:=sum_upB hb
 rw [subL_len hc] at hs
 refine ⟨?_,by omega,subL_len hc⟩
 rw [List.all_eq_true]
 intro x hx
 have:=hb x hx
 simp only [wtB,decide_eq_true_eq]
 omega
theorem gap_facts {gap:Int} (hg:0≤gap∧gap≤3) {m:Nat} (hm:m < 4):0≤gap * (m:Int)∧gap * (m:Int)≤9:=⟨Int.mul_nonneg hg.1 (by omega),Int.le_trans (Int.mul_le_mul hg.2 (show (m:Int)≤3 by omega) (by omega) (by omega)) (by omega)⟩
def fixTo (ps:List (Int × Int)) (l:List Int):Nat→List Int
 | 0=>l
 | k+1=>if (sd ps k).1=1 then (fixTo ps l k).set k (max ((fixTo ps l k).getD k 0) (sd ps k).2) else fixTo ps l k
theorem fixTo_len (ps:List (Int × Int)) (l:List Int):∀ k,(fixTo ps l k).length=l.length
 | 0=>rfl
 | k+1=>by rw [fixTo];split;rw [List.length_set];exact fixTo_len ps l k;exact fixTo_len ps l k
theorem fixTo_out (ps:List (Int × Int)) (l:List Int) {i:Nat}:∀ k,k≤i→(fixTo ps l k).getD i 0=l.getD i 0
 | 0,_=>rfl
 | k+1,h=>by
  rw [fixTo]
  split
  ·rw [← fixTo_out ps l (i:=i) k (by omega)]
   simp only [List.getD,List.getElem?_set_ne (show k ≠ i by omega)]
  ·exact fixTo_out ps l k (by omega)
def fixV (ps:List (Int × Int)) (k:Nat) (x:Int):Int:=if (sd ps k).1=1 then max x (sd ps k).2 else x
theorem fixTo_in (ps:List (Int × Int)) (l:List Int) {i:Nat} (hi:i < l.length):∀ k,i < k→(fixTo ps l k).getD i 0=fixV ps i (l.getD i 0)
 | k+1,h=>by
  rw [fixTo]
  by_cases e:i=k
  ·subst e
   rw [fixTo_out ps l i (Nat.le_refl _)]
   have hl:i < (fixTo ps l i).length:=by rw [fixTo_len];exact hi
   unfold fixV
   split
   ·simp [List.getD,hl]
   ·exact fixTo_out ps l i (Nat.le_refl _)
  ·rw [← fixTo_in ps l hi k (by omega)]
   split
   ·simp only [List.getD,List.getElem?_set_ne (show k ≠ i by omega)]
   ·rfl
def leastP (t:T) (x:GC):Int:=(leastOf (wordsW (textOf t x)):Nat)
def colN (t:T):Nat:=(gOf t).cols.toNat
def needL (t:T) (p:GC→Int):List Int:=needTo p t.gap (gOf t).cells (zeroL (colN t)) 4
def leastL (t:T):List Int:=fixTo t.cols (needL t (leastP t)) (colN t)
theorem needL_len (t:T) (p:GC→Int):(needL t p).length=colN t:=by unfold needL;rw [needTo_len];simp [zeroL]
theorem leastL_len (t:T):(leastL t).length=colN t:=by unfold leastL;rw [fixTo_len,needL_len]
theorem colN_of {t:T} {C:Nat} (h:(gOf t).cols=C):colN t=C:=by unfold colN;rw [h];exact Int.toNat_natCast C
theorem needL_up {t:T} (hD:Drawn t) {p:GC→Int} (hp:∀ x,p x≤30):UpB (needL t p) 4800:=by
 obtain ⟨h40,C,hgc,hC,hcel⟩:=cel_of hD
 unfold needL
 rw [colN_of hgc]
 exact need_up hcel h40 (by simp [zeroL]) hp (zero_up _) 4 (by omega)
theorem sd_small {t:T} {k:Nat} (hk:k < colN t):(sd t.cols k).1=1→0≤(sd t.cols k).2∧(sd t.cols k).2≤60:=by
 intro h1
 cases h:tblB t with
 | false=>unfold colN at hk;rw [gOf_no h] at hk;exact absurd hk (Nat.not_lt_zero _)
 | true =>
  simp only [tblB,colsB,Bool.and_eq_true,List.all_eq_true] at h
  by_cases hl:k < t.cols.length
  ·rw [sd_yes hl] at h1 ⊢
   have:=h.2.2.2.1.2 (t.cols.getD k (0,0)) (by rw [show t.cols.getD k (0,0)=t.cols[k] by simp [List.getD,hl]];exact List.getElem_mem hl)
   simp only [colB,decide_eq_true_eq] at this
   omega
  ·rw [sd_no (inB_false (by omega))] at h1
   simp at h1
theorem leastL_get {t:T} {k:Nat} (hk:k < colN t):(leastL t).getD k 0=fixV t.cols k ((needL t (leastP t)).getD k 0):=by
 unfold leastL
 exact fixTo_in _ _ (by rw [needL_len];exact hk) _ hk
theorem leastP_le (t:T) (x:GC):0≤leastP t x∧leastP t x≤30:=by
 unfold leastP
 have:=leastOf_le (wordsW (textOf t x))
 omega
theorem leastL_up {t:T} (hD:Drawn t):UpB (leastL t) 5000:=by
 intro i hi
 rw [leastL_len] at hi
 rw [leastL_get hi]
 have h1:=needL_up hD (fun x=>(leastP_le t x).2) i (by rw [needL_len];exact hi)
 have h2:=sd_small hi
 unfold fixV
 split
 ·have:=h2 (by assumption);omega
 ·omega
def maxTo (a b:List Int):Nat→List Int
 | 0=>a
 | k+1=>(maxTo a b k).set k (max (a.getD k 0) (b.getD k 0))
theorem maxTo_len (a b:List Int):∀ k,(maxTo a b k).length=a.length
 | 0=>rfl
 | k+1=>by rw [maxTo,List.length_set];exact maxTo_len a b k
theorem maxTo_out (a b:List Int) {i:Nat}:∀ k,k≤i→(maxTo a b k).getD i 0=a.getD i 0
 | 0,_=>rfl
 | k+1,h=>by
  rw [maxTo,← maxTo_out a b (i:=i) k (by omega)]
  simp only [List.getD,List.getElem?_set_ne (show k ≠ i by omega)]
theorem maxTo_in (a b:List Int) {i:Nat} (hi:i < a.length):∀ k,i < k→(maxTo a b k).getD i 0=max (a.getD i 0) (b.getD i 0)
 | k+1,h=>by
  rw [maxTo]
  by_cases e:i=k
  ·subst e
   have hl:i < (maxTo a b i).length:=by rw [maxTo_len];exact hi
   simp only [List.getD,List.getElem?_set_self hl,Option.getD_some]
  ·rw [← maxTo_in a b hi k (by omega)]
   simp only [List.getD,List.getElem?_set_ne (show k ≠ i by omega)]
def wishP (t:T) (x:GC):Int:=(wishOf (textOf t x):Nat)
theorem wishP_le (t:T) (x:GC):0≤wishP t x∧wishP t x≤30:=by
 unfold wishP
 have:=wishOf_le (textOf t x)
 omega
def wishL (t:T):List Int:=maxTo (needL t (wishP t)) (leastL t) (colN t)
theorem wishL_len (t:T):(wishL t).length=colN t:=by unfold wishL;rw [maxTo_len,needL_len]
theorem wishL_get {t:T} {k:Nat} (hk:k < colN t):(wishL t).getD k 0=max ((needL t (wishP t)).getD k 0) ((leastL t).getD k 0):=by
 unfold wishL
 exact maxTo_in _ _ (by rw [needL_len];exact hk) _ hk
theorem wishL_up {t:T} (hD:Drawn t):UpB (wishL t) 5000:=by
 intro i hi
 rw [wishL_len] at hi
 rw [wishL_get hi]
 have h1:=needL_up hD (fun x=>(wishP_le t x).2) i (by rw [needL_len];exact hi)
 have h2:=leastL_up hD i (by rw [leastL_len];exact hi)
 omega
theorem wish_least (t:T):LeL (leastL t) (wishL t):=by
 refine ⟨by rw [wishL_len,leastL_len],fun i hi=>?_⟩
 rw [leastL_len] at hi
 rw [wishL_get hi]
 omega
theorem wish_ge (t:T):LeL (needL t (wishP t)) (wishL t):=by
 refine ⟨by rw [wishL_len,needL_len],fun i hi=>?_⟩
 rw [needL_len] at hi
 rw [wishL_get hi]
 omega
theorem wish_has {t:T} (hD:Drawn t) {k:Nat} (hk:k < (gOf t).cells.length):wishP t ((gOf t).cells.getD k dG)≤hasV (wishL t) t.gap ((gOf t).cells.getD k dG):=by
 obtain ⟨h40,C,hgc,hC,hcel⟩:=cel_of hD
 have h1:=(need_ge hcel h40 (l:=zeroL C) (by simp [zeroL]) (fun x=>(wishP_le t x).2) (zero_up _) 4 (Nat.le_refl _)).2 k hk (by obtain ⟨rn,jn,cn,mn,e1,e2,e3,e4,h1,h2,h3,h4,h5⟩:=(hcel k hk).ex;omega)
 have e:needTo (wishP t) t.gap (gOf t).cells (zeroL C) 4=needL t (wishP t):=by unfold needL;rw [colN_of hgc]
 rw [e] at h1
 exact Int.le_trans h1 (hasV_le (hcel k hk) (wish_ge t) (by rw [needL_len,colN_of hgc]) t.gap)
end Go.Proofs.YtggmjiddadjilaeGreat
