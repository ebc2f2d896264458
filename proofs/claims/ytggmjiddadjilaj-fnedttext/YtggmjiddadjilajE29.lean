/-
  PROVED HERE: a table behind another text of a cell, as a list: ok, drawn, the same grid; with the old text again, the table as it was. Also: where each cell of a drawn table's grid stands: in its row, behind the one ahead of it, at the first column at which it is free; the grid is ok; it has as many cells as the table. Also: what stays all along a law over a table's grid: the table in its box, the grid in its own, both in memory.
-/
import Derived.Test.YtggmjiddadjilajE22
import Derived.Test.YtggmjiddadjilajE23
import Derived.Test.YtggmjiddadjilajE18
import Derived.Test.YtggmjiddadjilajE8
namespace Go.Proofs.Ytggmjiddadjilaj
open Go.RowKit

theorem rowTo_same {cs cs':List C} (h:∀ i,(cs'.getD i dC).c=(cs.getD i dC).c∧(cs'.getD i dC).r=(cs.getD i dC).r) (e:Int) (r:Nat) (gs:List GC):∀ i,rowTo e r cs' gs i=rowTo e r cs gs i
 | 0=>rfl
 | i+1=>by
  simp only [rowTo,rowTo_same h e r gs i]
  have:bare r i e (cs'.getD i dC)=bare r i e (cs.getD i dC):=by rw [bare,bare,(h i).1,(h i).2]
  rw [place,place,this]
theorem gridTo_same {t t':T} (hh:t'.head=t.head) (hf:t'.foot=t.foot) (hl:t'.rows.length=t.rows.length) (hc:∀ r,(t'.rows.getD r dR).cells.length=(t.rows.getD r dR).cells.length) (h:∀ r i,((t'.rows.getD r dR).cells.getD i dC).c=((t.rows.getD r dR).cells.getD i dC).c∧((t'.rows.getD r dR).cells.getD i dC).r=((t.rows.getD r dR).cells.getD i dC).r):∀ r,gridTo t' r=gridTo t r
 | 0=>rfl
 | r+1=>by
  have he:endOf t' r=endOf t r:=by rw [endOf,endOf,hh,hf,hl]
  simp only [gridTo,gridTo_same hh hf hl hc h r,he,hc r,rowTo_same (h r)]
/-- a table with another text of one cell -/
def txT (t:T) (r a:Nat) (s:ByteArray):T:=setRow t r ((t.rows.getD r dR).cells.set a (txC ((t.rows.getD r dR).cells.getD a dC) s))
theorem txT_len (t:T) (r a:Nat) (s:ByteArray):(txT t r a s).rows.length=t.rows.length:=setRow_len _ _ _
theorem txT_row (t:T) (r a:Nat) (s:ByteArray) (q:Nat):((txT t r a s).rows.getD q dR).cells=if q=r∧r < t.rows.length then (t.rows.getD r dR).cells.set a (txC ((t.rows.getD r dR).cells.getD a dC) s) else (t.rows.getD q dR).cells:=by
 unfold txT setRow
 show ((t.rows.set r _).getD q dR).cells=_
 rw [List.getD_eq_getElem?_getD,List.getElem?_set]
 split
 ·rename_i h
  subst h
  by_cases hr:r < t.rows.length
  ·rw [if_pos hr,if_pos ⟨rfl,hr⟩];rfl
  ·rw [if_neg hr,if_neg (by simp [hr]),List.getD_eq_getElem?_getD,List.getElem?_eq_none (by omega)]
 ·rename_i h
  rw [if_neg (by omega),List.getD_eq_getElem?_getD]
theorem txT_cell (t:T) (r a:Nat) (s:ByteArray) (q i:Nat):(((txT t r a s).rows.getD q dR).cells.getD i dC).c=((t.rows.getD q dR).cells.getD i dC).c∧(((txT t r a s).rows.getD q dR).cells.getD i dC).r=((t.rows.getD q dR).cells.getD i dC).r:=by
 rw [txT_row]
 split
 ·rename_i h
  obtain ⟨rfl,_⟩:=h
  rw [List.getD_eq_getElem?_getD,List.getElem?_set]
  split
  ·rename_i h
   subst h
   split
   ·exact ⟨rfl,rfl⟩
   ·rw [List.getD_eq_getElem?_getD,List.getElem?_eq_none (by omega)];exact ⟨rfl,rfl⟩
  ·rw [List.getD_eq_getElem?_getD];exact ⟨rfl,rfl⟩
 ·exact ⟨rfl,rfl⟩
theorem txT_cells (t:T) (r a:Nat) (s:ByteArray) (q:Nat):((txT t r a s).rows.getD q dR).cells.length=(t.rows.getD q dR).cells.length:=by
 rw [txT_row]
 split
 ·rename_i h
  rw [List.length_set,h.1]
 ·rfl
theorem txT_grid (t:T) (r a:Nat) (s:ByteArray):gridOf (txT t r a s)=gridOf t:=by
 unfold gridOf
 rw [txT_len]
 exact gridTo_same (t:=t) (t':=txT t r a s) rfl rfl (txT_len _ _ _ _) (txT_cells t r a s) (txT_cell t r a s) _
theorem txT_ok {t:T} (hk:tblB t=true) {r a:Nat} (hr:r < t.rows.length) (ha:a < (t.rows.getD r dR).cells.length) {s:ByteArray} (hs:txtOkB s=true):tblB (txT t r a s)=true:=by
 have hm:t.rows.getD r dR ∈ t.rows:=by rw [getD_get dR hr];exact List.getElem_mem hr
 simp only [tblB,Bool.and_eq_true,List.all_eq_true] at hk ⊢
 rw [txT_len]
 refine ⟨hk.1,hk.2.1,hk.2.2.1,hk.2.2.2.1,fun q hq=>?_⟩
 rcases List.mem_or_eq_of_mem_set hq with hq | rfl
 ·exact hk.2.2.2.2 q hq
 ·have h0:=hk.2.2.2.2 _ hm
  simp only [rowB,Bool.and_eq_true,decide_eq_true_eq,List.all_eq_true] at h0 ⊢
  refine ⟨by rw [List.length_set];exact h0.1,fun y hy=>?_⟩
  rcases List.mem_or_eq_of_mem_set hy with hy | rfl
  ·exact h0.2 y hy
  ·have h1:=h0.2 _ (List.getElem_mem ha)
   rw [← getD_get dC ha] at h1
   simp only [cB,cellOkB,Bool.and_eq_true] at h1 ⊢
   exact ⟨hs,h1.2⟩
theorem gOf_txT {t:T} (hk:tblB t=true) {r a:Nat} (hr:r < t.rows.length) (ha:a < (t.rows.getD r dR).cells.length) {s:ByteArray} (hs:txtOkB s=true):gOf (txT t r a s)=gOf t:=by
 rw [gOf,gOf,if_pos (txT_ok hk hr ha hs),if_pos hk,txT_grid,txT_len]
 rfl
theorem txT_drawn {t:T} (hD:Drawn t) {r a:Nat} (ha:a < (t.rows.getD r dR).cells.length) {s:ByteArray} (hs:s.size≤61):Drawn (txT t r a s):=by
 have hr:r < t.rows.length:=by
  rcases Nat.lt_or_ge r t.rows.length with h | h
  ·exact h
  ·rw [List.getD_eq_getElem?_getD,List.getElem?_eq_none h] at ha
   exact absurd ha (by simp [dR])
 have hm:t.rows.getD r dR ∈ t.rows:=by rw [getD_get dR hr];exact List.getElem_mem hr
 refine ⟨by rw [txT_len];exact hD.rows,hD.cols,hD.head,hD.foot,hD.gap,fun q hq x hx=>?_,?_⟩
 ·rcases List.mem_or_eq_of_mem_set hq with hq | rfl
  ·exact hD.cells q hq x hx
  ·rcases List.mem_or_eq_of_mem_set hx with hx | rfl
   ·exact hD.cells _ hm x hx
   ·have h1:=hD.cells _ hm _ (List.getElem_mem ha)
    rw [← getD_get dC ha] at h1
    exact ⟨hs,h1.2⟩
 ·obtain ⟨k,hk⟩:=hD.few
  exact ⟨k,fun i=>by rw [txT_cells];exact hk i⟩
theorem txT_back {t:T} (hk:tblB t=true) {r a:Nat} (hr:r < t.rows.length) (ha:a < (t.rows.getD r dR).cells.length) {s:ByteArray} (hs:txtOkB s=true) :
  edText (txT t r a s) (r:Int) (a:Int) ((t.rows.getD r dR).cells.getD a dC).s=(t,true):=by
 have hm:t.rows.getD r dR ∈ t.rows:=by rw [getD_get dR hr];exact List.getElem_mem hr
 have ho:=txT_ok hk hr ha hs
 have hcl:((txT t r a s).rows.getD r dR).cells=(t.rows.getD r dR).cells.set a (txC ((t.rows.getD r dR).cells.getD a dC) s):=by rw [txT_row,if_pos ⟨rfl,hr⟩]
 have hh:hasB (txT t r a s) (r:Int) (a:Int)=true:=hasB_iff.2 ⟨r,a,rfl,rfl,by rw [txT_len];exact hr,by rw [txT_cells];exact ha⟩
 have hx:txtOkB ((t.rows.getD r dR).cells.getD a dC).s=true:=by
  have h2:=hk
  simp only [tblB,Bool.and_eq_true,List.all_eq_true] at h2
  have h0:=h2.2.2.2.2 _ hm
  simp only [rowB,Bool.and_eq_true,decide_eq_true_eq,List.all_eq_true] at h0
  have h1:=h0.2 _ (List.getElem_mem ha)
  rw [← getD_get dC ha] at h1
  simp only [cB,cellOkB,Bool.and_eq_true] at h1
  exact h1.1
 rw [edText,if_pos ho,if_pos (by rw [hh,hx];rfl),Int.toNat_natCast,Int.toNat_natCast,hcl]
 congr 1
 have e1:((t.rows.getD r dR).cells.set a (txC ((t.rows.getD r dR).cells.getD a dC) s)).getD a dC=txC ((t.rows.getD r dR).cells.getD a dC) s:=by rw [getD_get dC (by rw [List.length_set];exact ha),List.getElem_set_self]
 have e2:txC (txC ((t.rows.getD r dR).cells.getD a dC) s) ((t.rows.getD r dR).cells.getD a dC).s=(t.rows.getD r dR).cells.getD a dC:=rfl
 rw [e1,e2,List.set_set]
 have e3:(t.rows.getD r dR).cells.set a ((t.rows.getD r dR).cells.getD a dC)=(t.rows.getD r dR).cells:=by rw [getD_get dC ha,List.set_getElem_self]
 rw [e3]
 have hgd:(⟨(t.rows.getD r dR).cells,(t.rows.getD r dR).whole⟩:R)=t.rows[r]:=by rw [getD_get dR hr]
 unfold txT setRow
 have e4:∀ cs:List C,((t.rows.set r ⟨cs,(t.rows.getD r dR).whole⟩).getD r dR).whole=(t.rows.getD r dR).whole:=fun cs=>by simp [List.getD,hr]
 show T.mk _ _ _ ((t.rows.set r ⟨_,(t.rows.getD r dR).whole⟩).set r ⟨_,((t.rows.set r ⟨_,(t.rows.getD r dR).whole⟩).getD r dR).whole⟩) _=t
 rw [e4,List.set_set,hgd,List.set_getElem_self]
end Go.Proofs.Ytggmjiddadjilaj
namespace Go.Proofs.Ytggmjiddadjilaj

theorem getD_snoc_lt {α:Type} {l:List α} {x d:α} {k:Nat} (h:k < l.length):(l ++ [x]).getD k d=l.getD k d:=by
 simp [List.getD,List.getElem?_append_left h]
theorem getD_snoc_eq {α:Type} {l:List α} {x d:α}:(l ++ [x]).getD l.length d=x:=by simp [List.getD]
theorem take_snoc_le {α:Type} {l:List α} {x:α} {k:Nat} (h:k≤l.length):(l ++ [x]).take k=l.take k:=by
 rw [List.take_append_of_le_length h]
theorem atCol_place (gs:List GC) (r i:Nat) (e:Int) (x:C) (c:Int):atCol (place gs r i e x) c=atCol (bare r i e x) c:=by simp only [place,atCol]
theorem col_place (gs:List GC) (r i:Nat) (e:Int) (x:C):(place gs r i e x).col=(ffree gs (bare r i e x):Int):=by simp only [place,atCol]
/-- of a cell of the grid: which one of the table it is; it stands as far ahead as may be; behind the one ahead of it -/
structure Laid (t:T) (gs:List GC) (k:Nat):Prop where
 ex:∃ r j:Nat,r < t.rows.length∧j < (t.rows.getD r dR).cells.length∧gs.getD k dG=place (gs.take k) r j (endOf t r) ((t.rows.getD r dR).cells.getD j dC)
 free:freeG (gs.take k) (gs.getD k dG)=true
 first:∀ c:Nat,(c:Int) < (gs.getD k dG).col→freeG (gs.take k) (atCol (gs.getD k dG) c)=false
 after:0 < k→(gs.getD (k - 1) dG).row < (gs.getD k dG).row∨(gs.getD (k - 1) dG).row=(gs.getD k dG).row∧(gs.getD (k - 1) dG).ins+1=(gs.getD k dG).ins
theorem Laid.snoc {t:T} {gs:List GC} {k:Nat} (x:GC) (hk:k < gs.length) (h:Laid t gs k):Laid t (gs ++ [x]) k:=by
 have e1:(gs ++ [x]).getD k dG=gs.getD k dG:=getD_snoc_lt hk
 have e2:(gs ++ [x]).take k=gs.take k:=take_snoc_le (by omega)
 have e3:(gs ++ [x]).getD (k - 1) dG=gs.getD (k - 1) dG:=getD_snoc_lt (by omega)
 refine ⟨?_,?_,?_,?_⟩
 ·rw [e1,e2];exact h.ex
 ·rw [e1,e2];exact h.free
 ·rw [e1,e2];exact h.first
 ·rw [e1,e3];exact h.after
structure LaidTo (t:T) (gs:List GC) (r i:Nat):Prop where
 part:Part t gs r i
 laid:∀ k,k < gs.length→Laid t gs k
 last:0 < gs.length→(gs.getD (gs.length - 1) dG).row < r∨(gs.getD (gs.length - 1) dG).row=r∧(gs.getD (gs.length - 1) dG).ins+1=i
theorem LaidTo.next {t:T} {gs:List GC} {r i:Nat} (h:LaidTo t gs r i) (hl:Low t) (hr:r < t.rows.length) (hi:i < (t.rows.getD r dR).cells.length) :
  LaidTo t (gs ++ [place gs r i (endOf t r) ((t.rows.getD r dR).cells.getD i dC)]) r (i+1):=by
 obtain ⟨⟨h1,h2,h3,h4⟩,hp⟩:=h.part.next hl hr hi
 refine ⟨hp,?_,?_⟩
 ·intro k hk
  rw [List.length_append,List.length_singleton] at hk
  by_cases hk2:k < gs.length
  ·exact (h.laid k hk2).snoc _ hk2
  ·obtain rfl:k=gs.length:=by omega
   have e2:∀ x:GC,(gs ++ [x]).take gs.length=gs:=fun x=>by rw [take_snoc_le (Nat.le_refl _),List.take_length]
   refine ⟨?_,?_,?_,?_⟩
   ·rw [getD_snoc_eq,e2];exact ⟨r,i,hr,hi,rfl⟩
   ·rw [getD_snoc_eq,e2];exact h2
   ·rw [getD_snoc_eq,e2]
    intro c hc
    rw [col_place] at hc
    rw [atCol_place]
    exact h3 c (Int.ofNat_lt.1 hc)
   ·intro h0
    rw [getD_snoc_eq,getD_snoc_lt (by omega)]
    exact h.last h0
 ·intro _
  rw [List.length_append,List.length_singleton,Nat.add_sub_cancel,getD_snoc_eq]
  refine .inr ⟨rfl,?_⟩
  show (i:Int)+1=((i+1:Nat):Int)
  omega
theorem LaidTo.zero (t:T):LaidTo t [] 0 0:=⟨Part.zero t,fun _ hk=>absurd hk (Nat.not_lt_zero _),fun h=>absurd h (Nat.lt_irrefl _)⟩
theorem LaidTo.rowEnd {t:T} {gs:List GC} {r:Nat} (h:LaidTo t gs r (t.rows.getD r dR).cells.length):LaidTo t gs (r+1) 0:=by
 refine ⟨h.part.rowEnd,h.laid,fun h0=>.inl ?_⟩
 rcases h.last h0 with h1 | ⟨h1,_⟩ <;> omega
theorem stands_of {t:T} (hl:Low t) {a:GC} (ha:a ∈ gridOf t):Stands t.rows.length a:=((part_grid hl _ (Nat.le_refl _)).stands a ha).1
end Go.Proofs.Ytggmjiddadjilaj
namespace Go.Proofs.Ytggmjiddadjilaj
open Go.RowKit

/-- the table, its two slices at hand -/
def TA (w:World) (z:Nat) (ac ar:Option Addr) (cc cr:Nat) (t:T):Prop:=ColsAt w z (.slice ac t.cols.length cc) t.cols∧RowsAt w z (.slice ar t.rows.length cr) t.rows
theorem TA.kept {w w':World} {z:Nat} {ac ar:Option Addr} {cc cr:Nat} {t:T} (h:TA w z ac ar cc cr t) (hb:Below w.heap.size w w'):TA w' z ac ar cc cr t:=⟨h.1.kept hb,h.2.kept hb⟩
/-- what stays all along -/
def St (w:World) (tb:Nat) (ac ar:Option Addr) (cc cr:Nat) (t:T) (W:World):Prop:=Below w.heap.size w W∧TA W w.heap.size ac ar cc cr t∧W.heap[tb]?=some (.cells #[.slice ac t.cols.length cc,.int .i64 t.head,.int .i64 t.foot,.slice ar t.rows.length cr,.int .i64 t.gap] 37)
theorem St.kept {w W W':World} {tb:Nat} {ac ar:Option Addr} {cc cr:Nat} {t:T} (h:St w tb ac ar cc cr t W) (hb:Below W.heap.size W W'):St w tb ac ar cc cr t W' :=
 ⟨h.1.trans (hb.mono h.1.size),h.2.1.kept hb,(hb.block tb (Array.getElem?_eq_some_iff.1 h.2.2).1).trans h.2.2⟩
theorem St.at {w W:World} {tb:Nat} {ac ar:Option Addr} {cc cr:Nat} {t:T} (h:St w tb ac ar cc cr t W):(W.cell? ⟨tb,0,none⟩=some (.slice ac t.cols.length cc)∧W.cell? ⟨tb,1,none⟩=some (.int .i64 t.head)∧W.cell? ⟨tb,2,none⟩=some (.int .i64 t.foot)∧W.cell? ⟨tb,3,none⟩=some (.slice ar t.rows.length cr)∧W.cell? ⟨tb,4,none⟩=some (.int .i64 t.gap)):=(fiveZ h.2.2).1
/-- the grid's cells are numbers -/
theorem gOf_gok {t:T} (hD:Drawn t):∀ x ∈ (gOf t).cells,GOk x:=by
 unfold gOf
 split
 ·rename_i h
  have hl:=low_of h hD
  exact fun x hx=>(stands_of hl hx).gok hl.rows
 ·intro x hx
  cases hx
def SGr (w:World) (tb gb:Nat) (ac ar:Option Addr) (cc cr:Nat) (t:T) (ag:Option Addr) (cg:Nat) (W:World):Prop :=
 St w tb ac ar cc cr t W∧GsAt W w.heap.size (.slice ag (gOf t).cells.length cg) (gOf t).cells∧W.heap[gb]?=some (.cells #[.int .i64 (gOf t).rows,.int .i64 (gOf t).cols,.slice ag (gOf t).cells.length cg] 25)
theorem SGr.kept {w W W':World} {tb gb:Nat} {ac ar ag:Option Addr} {cc cr cg:Nat} {t:T} (h:SGr w tb gb ac ar cc cr t ag cg W) (hb:Below W.heap.size W W'):SGr w tb gb ac ar cc cr t ag cg W' :=
 ⟨h.1.kept hb,h.2.1.kept hb,(hb.block gb (Array.getElem?_eq_some_iff.1 h.2.2).1).trans h.2.2⟩
theorem SGr.at {w W:World} {tb gb:Nat} {ac ar ag:Option Addr} {cc cr cg:Nat} {t:T} (h:SGr w tb gb ac ar cc cr t ag cg W):W.cell? ⟨gb,0,none⟩=some (.int .i64 (gOf t).rows)∧W.cell? ⟨gb,1,none⟩=some (.int .i64 (gOf t).cols)∧W.cell? ⟨gb,2,none⟩=some (.slice ag (gOf t).cells.length cg) :=
 ⟨cellB h.2.2,cellB h.2.2,cellB h.2.2⟩
/-- and a cell in its box -/
def SCe (w:World) (tb gb cb:Nat) (ac ar:Option Addr) (cc cr:Nat) (t:T) (ag:Option Addr) (cg:Nat) (x:GC) (W:World):Prop :=
 SGr w tb gb ac ar cc cr t ag cg W∧W.heap[cb]?=some (.cells #[.int .i64 x.row,.int .i64 x.col,.int .i64 x.rows,.int .i64 x.cols,.int .i64 x.ins] 29)
theorem SCe.kept {w W W':World} {tb gb cb:Nat} {ac ar ag:Option Addr} {cc cr cg:Nat} {t:T} {x:GC} (h:SCe w tb gb cb ac ar cc cr t ag cg x W) (hb:Below W.heap.size W W'):SCe w tb gb cb ac ar cc cr t ag cg x W' :=
 ⟨h.1.kept hb,(hb.block cb (Array.getElem?_eq_some_iff.1 h.2).1).trans h.2⟩
theorem SCe.at {w W:World} {tb gb cb:Nat} {ac ar ag:Option Addr} {cc cr cg:Nat} {t:T} {x:GC} (h:SCe w tb gb cb ac ar cc cr t ag cg x W):W.cell? ⟨cb,0,none⟩=some (.int .i64 x.row)∧W.cell? ⟨cb,1,none⟩=some (.int .i64 x.col)∧W.cell? ⟨cb,2,none⟩=some (.int .i64 x.rows)∧W.cell? ⟨cb,3,none⟩=some (.int .i64 x.cols)∧W.cell? ⟨cb,4,none⟩=some (.int .i64 x.ins) :=
 ⟨cellB h.2,cellB h.2,cellB h.2,cellB h.2,cellB h.2⟩
/-- small numbers -/
def Small (x:GC):Prop:=(0≤x.row∧x.row≤8)∧(0≤x.col∧x.col≤84)∧(1≤x.rows∧x.rows≤3)∧(1≤x.cols∧x.cols≤4)∧0≤x.ins∧x.ins≤4
theorem Stands.small {n:Nat} {a:GC} (hn:n≤8) (h:Stands n a):Small a:=by
 unfold Stands at h
 unfold Small
 omega
end Go.Proofs.Ytggmjiddadjilaj
