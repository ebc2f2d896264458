/-
  PROVED HERE: what the model's l1Max, l2Part and l2End answer; cells of a grid that a call owns lie in memory. Also: the grid of a drawn table, and that its cells are few and small where the table is ok. Also: where each cell of a drawn table's grid stands: in its row, behind the one ahead of it, at the first column at which it is free; the grid is ok; it has as many cells as the table. Also: what stays all along a law over a table's grid: the table in its box, the grid in its own, both in memory. Also: small facts for the model's l3Of: what stays of a table and a grid of the call's own; what holds between two operations of its first statement.
-/
import Derived.Test.YtggmjiddadjilajH16
import Derived.Test.YtggmjiddadjilajH6
import Derived.Test.YtggmjiddadjilajH7
import Derived.Test.YtggmjiddadjilajH15
import Derived.Test.YtggmjiddadjilajH12
import Derived.WalkLawsBesides
import Derived.WalkSpells
namespace Go.Proofs.Ytggmjiddadjilaj
open Go.RowKit

theorem l1Max_any (a b:Int) (w:World):Calls Try.prog 73 #[.int .i64 a,.int .i64 b] w fun e w'=>e=.returned (.int .i64 (max a b))∧w'=w:=by
 by_cases h:b < a
 ·have HE:Hid (max a b=a):=Hid.intro (by omega)
  go_enter Try.func73,Try.ntmps73
  go_wp2
  go_ret
  exact ⟨retI64 HE.out.symm,rfl⟩
 ·have HE:Hid (max a b=b):=Hid.intro (by omega)
  go_enter Try.func73,Try.ntmps73
  go_wp2
  go_ret
  exact ⟨retI64 HE.out.symm,rfl⟩
set_option maxRecDepth 100000 in
set_option maxHeartbeats 1000000 in
theorem l2End_any (ac ar:Option Addr) (cc cr:Nat) (t:T) (hb:t.rows.length≤8∧0≤t.foot∧t.foot≤t.rows.length) (r:Nat) (w:World) :
  Calls Try.prog 95 #[.agg #[.slice ac t.cols.length cc,.int .i64 t.head,.int .i64 t.foot,.slice ar t.rows.length cr,.int .i64 t.gap],.int .i64 (r:Int)] w fun e w'=>e=.returned (.int .i64 (endOf t r))∧Below w.heap.size w w':=by
 obtain ⟨h1,h2,h3⟩:=hb
 by_cases c1:(r:Int) < t.head
 ·have HE:Hid (endOf t r=t.head):=Hid.intro (by unfold endOf;rw [if_pos c1])
  go_enter Try.func95,Try.ntmps95
  go_wp2
  go_ret
  exact ⟨retI64 HE.out.symm,by repeat (first | exact Below.refl _ _ | apply k_alloc)⟩
 ·by_cases c2:(t.rows.length:Int) - t.foot≤r
  ·have HE:Hid (endOf t r=t.rows.length):=Hid.intro (by unfold endOf;rw [if_neg c1,if_pos c2])
   go_enter Try.func95,Try.ntmps95
   go_wp2
   go_ret
   exact ⟨retI64 HE.out.symm,by repeat (first | exact Below.refl _ _ | apply k_alloc)⟩
  ·have HE:Hid (endOf t r=t.rows.length - t.foot):=Hid.intro (by unfold endOf;rw [if_neg c1,if_neg c2])
   go_enter Try.func95,Try.ntmps95
   go_wp2
   go_ret
   exact ⟨retI64 HE.out.symm,by repeat (first | exact Below.refl _ _ | apply k_alloc)⟩
/-- a cell's five cells -/
def gcVs (x:GC):List Value:=[.int .i64 x.row,.int .i64 x.col,.int .i64 x.rows,.int .i64 x.cols,.int .i64 x.ins]
def OwnG (w:World) (base:Nat) (v:Value) (gs:List GC):Prop:=w.ownsRow base 29 5 v gs.length (gs.flatMap gcVs)
theorem OwnG.at {w:World} {base:Nat} {v:Value} {gs:List GC} (h:OwnG w base v gs) (hs:∀ x ∈ gs,GOk x):GsAt w base v gs:=by
 rcases h.2 with ⟨rfl,hn⟩ | ⟨g,cap,cur,rfl,hg,hc,h1,h2,_⟩
 ·exact ⟨none,0,by rw [hn],by omega,by unfold maxLen;omega,fun i hi=>by omega⟩
 ·refine ⟨_,cap,rfl,h1,h2,fun i hi=>⟨g,0,rfl,(Array.getElem?_eq_some_iff.1 hc).1,hg,?_,?_⟩⟩
  ·have hx:∀ j,j < 5→w.cell? ⟨g,i * 5+j,none⟩=(gcVs gs[i])[j]?:=fun j hj=>by
    have e:=flat_get gcVs 5 (fun _=>rfl) gs i hi j hj
    rw [row_cell h (u:=(gcVs gs[i])[j]'(by show j < 5;exact hj)) (by rw [e];simp)]
    simp
   rw [getD_get dG hi,Nat.zero_add]
   exact ⟨hx 0 (by omega),hx 1 (by omega),hx 2 (by omega),hx 3 (by omega),hx 4 (by omega)⟩
  ·rw [getD_get dG hi]
   exact hs _ (List.getElem_mem hi)
theorem Stands.gok {n:Nat} {a:GC} (hn:n≤8) (h:Stands n a):GOk a:=by
 unfold Stands at h
 unfold GOk I64
 omega
theorem Stands.sm {n:Nat} {a:GC} (hn:n≤8) (h:Stands n a):Sm a:=by
 unfold Stands at h
 unfold Sm
 omega
theorem infoGC:(Try.prog.info? 29).map (fun i=>(i.zero,i.size,i.bytes))=some (some (Value.agg #[.int .i64 0,.int .i64 0,.int .i64 0,.int .i64 0,.int .i64 0]),5,40):=by kernel_rfl
end Go.Proofs.Ytggmjiddadjilaj
namespace Go.Proofs.Ytggmjiddadjilaj
open Go.RowKit

/-- the grid of a drawn table -/
def gOf (t:T):G:=if tblB t=true then ⟨t.rows.length,colsOf (max 1 (t.cols.length:Int)) (gridOf t),gridOf t⟩ else ⟨0,0,[]⟩
theorem low_of {t:T} (h:tblB t=true) (hD:Drawn t):Low t:=by
 have hb:=tblB_bounds h
 have h2:=h
 simp only [tblB,partsB,inB,Bool.and_eq_true,decide_eq_true_eq,List.all_eq_true,rowB,cB,cellOkB] at h2
 refine ⟨hb.1.2,fun r hr x hx=>?_,hD.few,⟨hb.2.1.1,hb.2.1.2⟩,⟨hb.2.2.1,by omega⟩⟩
 have h3:=(h2.2.2.2.2 r hr).2 x hx
 have h4:=hD.cells r hr x hx
 exact ⟨by omega,by have:=h4.2;omega,by have:=h4.2;omega⟩
end Go.Proofs.Ytggmjiddadjilaj
namespace Go.Proofs.Ytggmjiddadjilaj

theorem getD_snoc_lt {α:Type} {l:List α} {x d:α} {k:Nat} (h:k < l.length):(l ++ [x]).getD k d=l.getD k d:=by
 simp [List.getD,List.getElem?_append_left h]
theorem getD_snoc_eq {α:Type} {l:List α} {x d:α}:(l ++ [x]).getD l.length d=x:=by simp [List.getD]
theorem take_snoc_le {α:Type} {l:List α} {x:α} {k:Nat} (h:k≤l.length):(l ++ [x]).take k=l.take k:=by
 rw [List.take_append_of_le_length h]
theorem atCol_place (gs:List GC) (r i:Nat) (e:Int) (x:C) (c:Int):atCol (place gs r i e x) c=atCol (bare r i e x) c:=by simp only [place,atCol]
theorem col_place (gs:List GC) (r i:Nat) (e:Int) (x:C):(place gs r i e x).col=(ffree gs (bare r i e x):Int):=by simp only [place,atCol]
/-- of a cell of the grid: which one of the table it is; it stands as far ahead as may be; behind the one ahead of it -/
structure Laid (t:T) (gs:List GC) (k:Nat):Prop where
 ex:∃ r j:Nat,r < t.rows.length∧j < (t.rows.getD r dR).cells.length∧gs.getD k dG=place (gs.take k) r j (endOf t r) ((t.rows.getD r dR).cells.getD j dC)
 free:freeG (gs.take k) (gs.getD k dG)=true
 first:∀ c:Nat,(c:Int) < (gs.getD k dG).col→freeG (gs.take k) (atCol (gs.getD k dG) c)=false
 after:0 < k→(gs.getD (k - 1) dG).row < (gs.getD k dG).row∨(gs.getD (k - 1) dG).row=(gs.getD k dG).row∧(gs.getD (k - 1) dG).ins+1=(gs.getD k dG).ins
theorem Laid.snoc {t:T} {gs:List GC} {k:Nat} (x:GC) (hk:k < gs.length) (h:Laid t gs k):Laid t (gs ++ [x]) k:=by
 have e1:(gs ++ [x]).getD k dG=gs.getD k dG:=getD_snoc_lt hk
 have e2:(gs ++ [x]).take k=gs.take k:=take_snoc_le (by omega)
 have e3:(gs ++ [x]).getD (k - 1) dG=gs.getD (k - 1) dG:=getD_snoc_lt (by omega)
 refine ⟨?_,?_,?_,?_⟩
 ·rw [e1,e2];exact h.ex
 ·rw [e1,e2];exact h.free
 ·rw [e1,e2];exact h.first
 ·rw [e1,e3];exact h.after
structure LaidTo (t:T) (gs:List GC) (r i:Nat):Prop where
 part:Part t gs r i
 laid:∀ k,k < gs.length→Laid t gs k
 last:0 < gs.length→(gs.getD (gs.length - 1) dG).row < r∨(gs.getD (gs.length - 1) dG).row=r∧(gs.getD (gs.length - 1) dG).ins+1=i
theorem LaidTo.next {t:T} {gs:List GC} {r i:Nat} (h:LaidTo t gs r i) (hl:Low t) (hr:r < t.rows.length) (hi:i < (t.rows.getD r dR).cells.length) :
  LaidTo t (gs ++ [place gs r i (endOf t r) ((t.rows.getD r dR).cells.getD i dC)]) r (i+1):=by
 obtain ⟨⟨h1,h2,h3,h4⟩,hp⟩:=h.part.next hl hr hi
 refine ⟨hp,?_,?_⟩
 ·intro k hk
  rw [List.length_append,List.length_singleton] at hk
  by_cases hk2:k < gs.length
  ·exact (h.laid k hk2).snoc _ hk2
  ·obtain rfl:k=gs.length:=by omega
   have e2:∀ x:GC,(gs ++ [x]).take gs.length=gs:=fun x=>by rw [take_snoc_le (Nat.le_refl _),List.take_length]
   refine ⟨?_,?_,?_,?_⟩
   ·rw [getD_snoc_eq,e2];exact ⟨r,i,hr,hi,rfl⟩
   ·rw [getD_snoc_eq,e2];exact h2
   ·rw [getD_snoc_eq,e2]
    intro c hc
    rw [col_place] at hc
    rw [atCol_place]
    exact h3 c (Int.ofNat_lt.1 hc)
   ·intro h0
    rw [getD_snoc_eq,getD_snoc_lt (by omega)]
    exact h.last h0
 ·intro _
  rw [List.length_append,List.length_singleton,Nat.add_sub_cancel,getD_snoc_eq]
  refine .inr ⟨rfl,?_⟩
  show (i:Int)+1=((i+1:Nat):Int)
  omega
theorem LaidTo.zero (t:T):LaidTo t [] 0 0:=⟨Part.zero t,fun _ hk=>absurd hk (Nat.not_lt_zero _),fun h=>absurd h (Nat.lt_irrefl _)⟩
theorem LaidTo.rowEnd {t:T} {gs:List GC} {r:Nat} (h:LaidTo t gs r (t.rows.getD r dR).cells.length):LaidTo t gs (r+1) 0:=by
 refine ⟨h.part.rowEnd,h.laid,fun h0=>.inl ?_⟩
 rcases h.last h0 with h1 | ⟨h1,_⟩ <;> omega
theorem stands_of {t:T} (hl:Low t) {a:GC} (ha:a ∈ gridOf t):Stands t.rows.length a:=((part_grid hl _ (Nat.le_refl _)).stands a ha).1
theorem colsOf_cons (m:Int) (a:GC) (gs:List GC):colsOf m (a :: gs)=colsOf (max m (a.col+a.cols)) gs:=rfl
theorem colsOf_ge:∀ (gs:List GC) (m:Int),m≤colsOf m gs
 | [],m=>Int.le_refl _
 | a :: gs,m=>by rw [colsOf_cons];exact Int.le_trans (Int.le_max_left _ _) (colsOf_ge gs _)
theorem colsOf_mem:∀ {gs:List GC} {m:Int} {a:GC},a ∈ gs→a.col+a.cols≤colsOf m gs
 | b :: gs,m,a,h=>by
  rw [colsOf_cons]
  rcases List.mem_cons.1 h with rfl | h
  ·exact Int.le_trans (Int.le_max_right _ _) (colsOf_ge gs _)
  ·exact colsOf_mem h
theorem colsOf_le:∀ {gs:List GC} {m B:Int},m≤B→(∀ a ∈ gs,a.col+a.cols≤B)→colsOf m gs≤B
 | [],m,B,h,_=>h
 | a :: gs,m,B,h,h2=>by
  rw [colsOf_cons]
  exact colsOf_le (Int.max_le.2 ⟨h,h2 a (by simp)⟩) (fun b hb=>h2 b (by simp [hb]))
theorem cols_bounds {t:T} (hl:Low t) (hc:t.cols.length≤8):1≤colsOf (max 1 (t.cols.length:Int)) (gridOf t)∧colsOf (max 1 (t.cols.length:Int)) (gridOf t)≤88∧(t.cols.length:Int)≤colsOf (max 1 (t.cols.length:Int)) (gridOf t):=by
 have h1:=colsOf_ge (gridOf t) (max 1 (t.cols.length:Int))
 have h2:colsOf (max 1 (t.cols.length:Int)) (gridOf t)≤88:=colsOf_le (by omega) (fun a ha=>by have:=stands_of hl ha;unfold Stands at this;omega)
 omega
theorem fits_stands {t:T} (hl:Low t) {a:GC} (ha:a ∈ gridOf t):fitsB t.rows.length (colsOf (max 1 (t.cols.length:Int)) (gridOf t)) a=true:=by
 have h1:=stands_of hl ha
 have h2:=colsOf_mem (m:=max 1 (t.cols.length:Int)) ha
 unfold Stands at h1
 simp only [fitsB,inB,Bool.and_eq_true,decide_eq_true_eq]
 omega
end Go.Proofs.Ytggmjiddadjilaj
namespace Go.Proofs.Ytggmjiddadjilaj
open Go.RowKit

/-- the table, its two slices at hand -/
def TA (w:World) (z:Nat) (ac ar:Option Addr) (cc cr:Nat) (t:T):Prop:=ColsAt w z (.slice ac t.cols.length cc) t.cols∧RowsAt w z (.slice ar t.rows.length cr) t.rows
theorem TA.kept {w w':World} {z:Nat} {ac ar:Option Addr} {cc cr:Nat} {t:T} (h:TA w z ac ar cc cr t) (hb:Below w.heap.size w w'):TA w' z ac ar cc cr t:=⟨h.1.kept hb,h.2.kept hb⟩
/-- what stays all along -/
def St (w:World) (tb:Nat) (ac ar:Option Addr) (cc cr:Nat) (t:T) (W:World):Prop:=Below w.heap.size w W∧TA W w.heap.size ac ar cc cr t∧W.heap[tb]?=some (.cells #[.slice ac t.cols.length cc,.int .i64 t.head,.int .i64 t.foot,.slice ar t.rows.length cr,.int .i64 t.gap] 37)
theorem St.kept {w W W':World} {tb:Nat} {ac ar:Option Addr} {cc cr:Nat} {t:T} (h:St w tb ac ar cc cr t W) (hb:Below W.heap.size W W'):St w tb ac ar cc cr t W' :=
 ⟨h.1.trans (hb.mono h.1.size),h.2.1.kept hb,(hb.block tb (Array.getElem?_eq_some_iff.1 h.2.2).1).trans h.2.2⟩
theorem St.at {w W:World} {tb:Nat} {ac ar:Option Addr} {cc cr:Nat} {t:T} (h:St w tb ac ar cc cr t W):(W.cell? ⟨tb,0,none⟩=some (.slice ac t.cols.length cc)∧W.cell? ⟨tb,1,none⟩=some (.int .i64 t.head)∧W.cell? ⟨tb,2,none⟩=some (.int .i64 t.foot)∧W.cell? ⟨tb,3,none⟩=some (.slice ar t.rows.length cr)∧W.cell? ⟨tb,4,none⟩=some (.int .i64 t.gap)):=(fiveZ h.2.2).1
/-- the grid's cells are numbers -/
theorem gOf_gok {t:T} (hD:Drawn t):∀ x ∈ (gOf t).cells,GOk x:=by
 unfold gOf
 split
 ·rename_i h
  have hl:=low_of h hD
  exact fun x hx=>(stands_of hl hx).gok hl.rows
 ·intro x hx
  cases hx
def SGr (w:World) (tb gb:Nat) (ac ar:Option Addr) (cc cr:Nat) (t:T) (ag:Option Addr) (cg:Nat) (W:World):Prop :=
 St w tb ac ar cc cr t W∧GsAt W w.heap.size (.slice ag (gOf t).cells.length cg) (gOf t).cells∧W.heap[gb]?=some (.cells #[.int .i64 (gOf t).rows,.int .i64 (gOf t).cols,.slice ag (gOf t).cells.length cg] 25)
theorem SGr.kept {w W W':World} {tb gb:Nat} {ac ar ag:Option Addr} {cc cr cg:Nat} {t:T} (h:SGr w tb gb ac ar cc cr t ag cg W) (hb:Below W.heap.size W W'):SGr w tb gb ac ar cc cr t ag cg W' :=
 ⟨h.1.kept hb,h.2.1.kept hb,(hb.block gb (Array.getElem?_eq_some_iff.1 h.2.2).1).trans h.2.2⟩
theorem SGr.at {w W:World} {tb gb:Nat} {ac ar ag:Option Addr} {cc cr cg:Nat} {t:T} (h:SGr w tb gb ac ar cc cr t ag cg W):W.cell? ⟨gb,0,none⟩=some (.int .i64 (gOf t).rows)∧W.cell? ⟨gb,1,none⟩=some (.int .i64 (gOf t).cols)∧W.cell? ⟨gb,2,none⟩=some (.slice ag (gOf t).cells.length cg) :=
 ⟨cellB h.2.2,cellB h.2.2,cellB h.2.2⟩
theorem own_slice {w:World} {base:Nat} {v:Value} {gs:List GC} (h:OwnG w base v gs):∃ a cap,v=.slice a gs.length cap:=by
 rcases h.2 with ⟨rfl,hn⟩ | ⟨g,cap,cur,rfl,_⟩
 ·exact ⟨none,0,by rw [hn]⟩
 ·exact ⟨_,cap,rfl⟩
theorem gOf_ok {t:T} (h:tblB t=true):gOf t=⟨t.rows.length,colsOf (max 1 (t.cols.length:Int)) (gridOf t),gridOf t⟩:=by unfold gOf;rw [if_pos h]
theorem gOf_no {t:T} (h:tblB t=false):gOf t=⟨0,0,[]⟩:=by unfold gOf;rw [if_neg (by rw [h];simp)]
/-- and a cell in its box -/
def SCe (w:World) (tb gb cb:Nat) (ac ar:Option Addr) (cc cr:Nat) (t:T) (ag:Option Addr) (cg:Nat) (x:GC) (W:World):Prop :=
 SGr w tb gb ac ar cc cr t ag cg W∧W.heap[cb]?=some (.cells #[.int .i64 x.row,.int .i64 x.col,.int .i64 x.rows,.int .i64 x.cols,.int .i64 x.ins] 29)
theorem SCe.kept {w W W':World} {tb gb cb:Nat} {ac ar ag:Option Addr} {cc cr cg:Nat} {t:T} {x:GC} (h:SCe w tb gb cb ac ar cc cr t ag cg x W) (hb:Below W.heap.size W W'):SCe w tb gb cb ac ar cc cr t ag cg x W' :=
 ⟨h.1.kept hb,(hb.block cb (Array.getElem?_eq_some_iff.1 h.2).1).trans h.2⟩
theorem SCe.at {w W:World} {tb gb cb:Nat} {ac ar ag:Option Addr} {cc cr cg:Nat} {t:T} {x:GC} (h:SCe w tb gb cb ac ar cc cr t ag cg x W):W.cell? ⟨cb,0,none⟩=some (.int .i64 x.row)∧W.cell? ⟨cb,1,none⟩=some (.int .i64 x.col)∧W.cell? ⟨cb,2,none⟩=some (.int .i64 x.rows)∧W.cell? ⟨cb,3,none⟩=some (.int .i64 x.cols)∧W.cell? ⟨cb,4,none⟩=some (.int .i64 x.ins) :=
 ⟨cellB h.2,cellB h.2,cellB h.2,cellB h.2,cellB h.2⟩
/-- small numbers -/
def Small (x:GC):Prop:=(0≤x.row∧x.row≤8)∧(0≤x.col∧x.col≤84)∧(1≤x.rows∧x.rows≤3)∧(1≤x.cols∧x.cols≤4)∧0≤x.ins∧x.ins≤4
theorem Stands.small {n:Nat} {a:GC} (hn:n≤8) (h:Stands n a):Small a:=by
 unfold Stands at h
 unfold Small
 omega
end Go.Proofs.Ytggmjiddadjilaj
namespace Go.Proofs.Ytggmjiddadjilaj
open Go.RowKit

structure OfJ (n0:Nat) (W0:World) (ac ar:Option Addr) (cc cr:Nat) (t:T) (L:Nat→Bool) (w:World) (v3 v8 v9 v10 v11 v12 v13 v14 v15:Value):Prop where
 f0:L 0=true→v8=.pointer (some ⟨n0,3,none⟩)
 f1:L 1=true→v9=.slice ar t.rows.length cr
 f2:L 2=true→v10=.int .i64 (t.rows.length:Int)
 f3:L 3=true→v11=.pointer (some ⟨n0,0,none⟩)
 f4:L 4=true→v12=.slice ac t.cols.length cc
 f5:L 5=true→v13=.int .i64 (t.cols.length:Int)
 f6:L 6=true→v14=.int .i64 (max 1 (t.cols.length:Int))
 f7:L 7=true→v15=.agg #[.int .i64 (t.rows.length:Int),.int .i64 (max 1 (t.cols.length:Int)),.slice none 0 0]
 f8:L 8=true→∃ g,v3=.pointer (some ⟨g,0,none⟩)∧W0.heap.size≤g∧(L 9=false→w.heap[g]?=some (.cells #[.int .i64 0,.int .i64 0,.slice none 0 0] 25))
 f9:L 9=true→∃ g,v3=.pointer (some ⟨g,0,none⟩)∧W0.heap.size≤g∧w.heap[g]?=some (.cells #[.int .i64 (t.rows.length:Int),.int .i64 (max 1 (t.cols.length:Int)),.slice none 0 0] 25)
 o9:L 9=true→L 8=true
 bk:Below W0.heap.size W0 w
def ofJ (n0:Nat) (W0:World) (ac ar:Option Addr) (cc cr:Nat) (t:T) (mk:Value→Value→Value→Value→Value→Value→Value→Value→Value→Act) (L:Nat→Bool) (a:Act) (w:World):Prop:=∃ v3 v8 v9 v10 v11 v12 v13 v14 v15:Value,a=mk v3 v8 v9 v10 v11 v12 v13 v14 v15∧OfJ n0 W0 ac ar cc cr t L w v3 v8 v9 v10 v11 v12 v13 v14 v15
theorem threeZ {w:World} {g:Nat} {x0 x1 x2:Value} {t:TypeId} (h:w.heap[g]?=some (.cells #[x0,x1,x2] t)) :
  (w.cell? ⟨g,0,none⟩=some x0∧w.cell? ⟨g,1,none⟩=some x1∧w.cell? ⟨g,2,none⟩=some x2)∧w.frozen? ⟨g,0,none⟩=false∧w.frozen? ⟨g,1,none⟩=false∧w.frozen? ⟨g,2,none⟩=false :=
 ⟨⟨cellB h,cellB h,cellB h⟩,freeB h,freeB h,freeB h⟩
/-- what stays all along: the table, the answer's block, the grid -/
structure SG (w:World) (gb:Nat) (ac ar:Option Addr) (cc cr:Nat) (t:T) (C:Int) (vg:Value) (gs:List GC) (W:World):Prop where
 bel:Below w.heap.size w W
 tbl:W.heap[w.heap.size]?=some (.cells #[.slice ac t.cols.length cc,.int .i64 t.head,.int .i64 t.foot,.slice ar t.rows.length cr,.int .i64 t.gap] 37)
 res:W.heap[w.heap.size+1]?=some (.cells #[.int .i64 0,.int .i64 0,.slice none 0 0] 25)
 grd:W.heap[gb]?=some (.cells #[.int .i64 (t.rows.length:Int),.int .i64 C,vg] 25)
 own:OwnG W (w.heap.size+2) vg gs
theorem fiveT {w:World} {g:Nat} {x0 x1 x2 x3 x4:Value} {t:TypeId} (h:w.heap[g]?=some (.cells #[x0,x1,x2,x3,x4] t)) :
  (w.cell? ⟨g,0,none⟩=some x0∧w.cell? ⟨g,1,none⟩=some x1∧w.cell? ⟨g,2,none⟩=some x2∧w.cell? ⟨g,3,none⟩=some x3∧w.cell? ⟨g,4,none⟩=some x4)∧w.frozen? ⟨g,0,none⟩=false∧w.frozen? ⟨g,1,none⟩=false∧w.frozen? ⟨g,2,none⟩=false∧w.frozen? ⟨g,3,none⟩=false∧w.frozen? ⟨g,4,none⟩=false :=
 ⟨⟨cellB h,cellB h,cellB h,cellB h,cellB h⟩,freeB h,freeB h,freeB h,freeB h,freeB h⟩
theorem blk_kept {w w':World} {g:Nat} {o:Obj} (h:w.heap[g]?=some o) (hb:Below w.heap.size w w'):w'.heap[g]?=some o:=(hb.block g (Array.getElem?_eq_some_iff.1 h).1).trans h
theorem row_kept {w w':World} {base:Nat} {e:TypeId} {sz:Nat} {v:Value} {m:Nat} {xs:List Value} (h:w.ownsRow base e sz v m xs) (k:Below w.heap.size w w'):w'.ownsRow base e sz v m xs :=
 ⟨h.1,h.2.elim Or.inl (fun ⟨g,cap,cur,hv,hg,hc,q⟩=>Or.inr ⟨g,cap,cur,hv,hg,blk_kept hc k,q⟩)⟩
theorem SG.kept {w W W':World} {gb:Nat} {ac ar:Option Addr} {cc cr:Nat} {t:T} {C:Int} {vg:Value} {gs:List GC} (h:SG w gb ac ar cc cr t C vg gs W) (k:Below W.heap.size W W'):SG w gb ac ar cc cr t C vg gs W' :=
 ⟨h.bel.trans (k.mono h.bel.size),blk_kept h.tbl k,blk_kept h.res k,blk_kept h.grd k,row_kept h.own k⟩
theorem own_ne' {v:Value} {g:Nat} (h:∀ b,v.ownBlock=some b→b ≠ g):some g ≠ v.ownBlock:=fun e=>h g e.symm rfl
/-- one block, of the call's own, may be turned -/
theorem SG.bkc {w W W':World} {gb cb:Nat} {ac ar:Option Addr} {cc cr:Nat} {t:T} {C:Int} {vg:Value} {gs:List GC} (h:SG w gb ac ar cc cr t C vg gs W) (k:Bk cb W W') (hcb:w.heap.size+2≤cb) (hne:gb ≠ cb) (hv:∀ b,vg.ownBlock=some b→b ≠ cb):SG w gb ac ar cc cr t C vg gs W' :=
 ⟨h.bel.trans (k.below h.bel.size (by omega)),(k.block _ (Array.getElem?_eq_some_iff.1 h.tbl).1 (by omega)).trans h.tbl,(k.block _ (Array.getElem?_eq_some_iff.1 h.res).1 (by omega)).trans h.res,(k.block _ (Array.getElem?_eq_some_iff.1 h.grd).1 hne).trans h.grd,
  row_off (n:=w.heap.size+2) (b1:=some cb) (b2:=none) h.own ⟨k.size,fun j _ hj h1 _=>k.block j hj (fun e=>h1 (by rw [e]))⟩ (Nat.le_refl _) (by
   cases hb:vg.ownBlock with
   | none=>exact .inl rfl
   | some b=>exact .inr (fun e=>by injection e with e;exact hv b hb e)) (by cases vg.ownBlock <;> simp)⟩
end Go.Proofs.Ytggmjiddadjilaj
