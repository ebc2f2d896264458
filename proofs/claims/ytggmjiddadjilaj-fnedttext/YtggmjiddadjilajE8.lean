/-
  PROVED HERE: how a drawn table's cells are put at their places, row by row, each at the first column at which it is free: each finds it ahead of the 85th, since no more than twelve cells have a row in common with it and each shuts seven columns at most. Also: a region that draws its order, whose own operations only read and whose callees turn nothing that was in memory, may be walked once, in its text's order. Also: what the model's l3Meets and l3Free answer; nothing that was in memory is turned. Also: what the drawing reader's l20Open and pick answer: a reader over the code; a number from 0 to n - 1; of what was in memory nothing is turned but the reader's own place. Also: the part of a row of a table. Also: what the model's l1Max, l2Part and l2End answer; cells of a grid that a call owns lie in memory.
-/
import Derived.Test.YtggmjiddadjilajE7
import Derived.Test.YtggmjiddadjilajE1
import Derived.Test.YtggmjiddadjilajE6
import Derived.Deep.QuietTactic
import Derived.BigQuiet
import Derived.WalkLawsBesides
import Derived.WalkSpells
import Derived.Laws.BitsAllLaws
import Derived.RegionTactic
import Derived.Lib.SmallJoins
import Derived.OpenShut
namespace Go.Proofs.Ytggmjiddadjilaj

/-- an interval of seven shuts no more than seven columns -/
theorem cnt7 (l:Int) (N:Nat):(((List.range N).countP (fun c:Nat=>decide (l≤(c:Int)∧(c:Int) < l+7)):Nat):Int)≤max 0 (min 7 (N - l)):=by
 induction N with
 | zero=>simp;omega
 | succ N ih =>
  rw [List.range_succ,List.countP_append,List.countP_cons,List.countP_nil]
  by_cases h:l≤(N:Int)∧(N:Int) < l+7
  ·rw [if_pos (decide_eq_true h)];omega
  ·rw [if_neg (by simpa using h)];omega
theorem countP_or {α:Type} (p q:α→Bool) (l:List α):l.countP (fun x=>p x || q x)≤l.countP p+l.countP q:=by
 induction l with
 | nil=>simp
 | cons a t ih =>
  rw [List.countP_cons,List.countP_cons,List.countP_cons]
  cases p a <;> cases q a <;> simp <;> omega
theorem shut_cnt (N:Nat):∀ ls:List Int,(List.range N).countP (fun c:Nat=>ls.any fun l=>decide (l≤(c:Int)∧(c:Int) < l+7))≤7 * ls.length
 | []=>by simp
 | l :: t=>by
  have h1:=shut_cnt N t
  have h2:=cnt7 l N
  have h3:=countP_or (fun c:Nat=>decide (l≤(c:Int)∧(c:Int) < l+7)) (fun c:Nat=>t.any fun l=>decide (l≤(c:Int)∧(c:Int) < l+7)) (List.range N)
  simp only [List.any_cons,List.length_cons]
  omega
theorem shut_some (ls:List Int):∃ c:Nat,c≤7 * ls.length∧∀ l ∈ ls,¬ (l≤(c:Int)∧(c:Int) < l+7):=by
 apply Classical.byContradiction
 intro hn
 have hall:∀ c ∈ List.range (7 * ls.length+1),(ls.any fun l=>decide (l≤(c:Int)∧(c:Int) < l+7))=true:=by
  intro c hc
  rw [List.mem_range] at hc
  apply Classical.byContradiction
  intro h
  refine hn ⟨c,by omega,fun l hl h2=>h ?_⟩
  exact List.any_eq_true.2 ⟨l,hl,decide_eq_true h2⟩
 have h1:=List.countP_eq_length.2 hall
 have h2:=shut_cnt (7 * ls.length+1) ls
 rw [List.length_range] at h1
 omega
/-- a cell at another column -/
def atCol (x:GC) (c:Int):GC:=⟨x.row,c,x.rows,x.cols,x.ins⟩
/-- whether two cells have a row in common -/
def rowMeets (a x:GC):Bool:=decide (a.row < x.row+x.rows) && decide (x.row < a.row+a.rows)
theorem free_exists (gs:List GC) (x:GC) (hx:1≤x.cols∧x.cols≤4) (hg:∀ a ∈ gs,1≤a.cols∧a.cols≤4):∃ c:Nat,c≤7 * (gs.filter fun a=>rowMeets a x).length∧freeG gs (atCol x c)=true:=by
 obtain ⟨c,h1,h2⟩:=shut_some ((gs.filter fun a=>rowMeets a x).map fun a=>a.col - x.cols+1)
 rw [List.length_map] at h1
 refine ⟨c,h1,List.all_eq_true.2 fun a ha=>?_⟩
 cases hm:meetsB a (atCol x c) with
 | false=>rfl
 | true =>
  exfalso
  unfold meetsB atCol at hm
  simp only [Bool.and_eq_true,decide_eq_true_eq] at hm
  have hc:=hg a ha
  refine h2 (a.col - x.cols+1) (List.mem_map.2 ⟨a,List.mem_filter.2 ⟨ha,?_⟩,rfl⟩) (by omega)
  simp only [rowMeets,Bool.and_eq_true,decide_eq_true_eq]
  omega
/-- the first column, of so many, at which a cell is free -/
def ffreeN (N:Nat) (gs:List GC) (x:GC):Nat:=(List.range N).findIdx (fun c:Nat=>freeG gs (atCol x c))
theorem ffreeN_le {N:Nat} {gs:List GC} {x:GC} {c:Nat} (hc:c < N) (h:freeG gs (atCol x c)=true):ffreeN N gs x≤c∧freeG gs (atCol x (ffreeN N gs x))=true∧∀ k,k < ffreeN N gs x→freeG gs (atCol x (k:Nat))=false:=by
 have hl:ffreeN N gs x < (List.range N).length:=List.findIdx_lt_length_of_exists ⟨c,List.mem_range.2 hc,h⟩
 have hno:∀ k,k < ffreeN N gs x→freeG gs (atCol x (k:Nat))=false:=by
  intro k hk
  have:=List.not_of_lt_findIdx (p:=fun c:Nat=>freeG gs (atCol x c)) (xs:=List.range N) hk
  simpa using this
 refine ⟨?_,?_,hno⟩
 ·apply Classical.byContradiction
  intro hn
  have:=hno c (by omega)
  rw [h] at this
  cases this
 ·have e:(List.range N)[ffreeN N gs x]'hl=ffreeN N gs x:=List.getElem_range hl
  have h1:freeG gs (atCol x (((List.range N)[ffreeN N gs x]'hl:Nat):Int))=true:=List.findIdx_getElem (p:=fun c:Nat=>freeG gs (atCol x c)) (xs:=List.range N) (w:=hl)
  rw [e] at h1
  exact h1
/-- the first column at which a cell is free -/
def ffree (gs:List GC) (x:GC):Nat:=ffreeN 1000 gs x
theorem ffree_le {gs:List GC} {x:GC} {c:Nat} (hc:c < 1000) (h:freeG gs (atCol x c)=true):ffree gs x≤c∧freeG gs (atCol x (ffree gs x))=true∧∀ k,k < ffree gs x→freeG gs (atCol x (k:Nat))=false:=ffreeN_le hc h
/-- the row behind the part of a row -/
def endOf (t:T) (r:Nat):Int:=if (r:Int) < t.head then t.head else if (t.rows.length:Int) - t.foot≤r then t.rows.length else t.rows.length - t.foot
/-- a cell in its row, its column not yet known -/
def bare (r i:Nat) (e:Int) (x:C):GC:=⟨r,0,min x.r (e - r),x.c,i⟩
/-- a cell put at its place -/
def place (gs:List GC) (r i:Nat) (e:Int) (x:C):GC:=atCol (bare r i e x) (ffree gs (bare r i e x))
/-- the first cells of a row put at their places -/
def rowTo (e:Int) (r:Nat) (cs:List C) (gs:List GC):Nat→List GC
 | 0=>gs
 | i+1=>rowTo e r cs gs i ++ [place (rowTo e r cs gs i) r i e (cs.getD i dC)]
/-- the cells of the first rows put at their places -/
def gridTo (t:T):Nat→List GC
 | 0=>[]
 | r+1=>rowTo (endOf t r) r (t.rows.getD r dR).cells (gridTo t r) (t.rows.getD r dR).cells.length
/-- how many columns there are -/
def colsOf (m:Int) (gs:List GC):Int:=gs.foldl (fun m a=>max m (a.col+a.cols)) m
theorem colsOf_snoc (m:Int) (gs:List GC) (x:GC):colsOf m (gs ++ [x])=max (colsOf m gs) (x.col+x.cols):=by simp [colsOf]
/-- what a drawn table's cells are, where it is ok: few, over no more than three rows -/
structure Low (t:T):Prop where
 rows:t.rows.length≤8
 span:∀ r ∈ t.rows,∀ x ∈ r.cells,(1≤x.c∧x.c≤4)∧1≤x.r∧x.r≤3
 few:∃ k,∀ i,(t.rows.getD i dR).cells.length≤if i=k then 5 else 4
 head:0≤t.head∧t.head≤t.rows.length
 foot:0≤t.foot∧t.head+t.foot≤t.rows.length
/-- a cell that stands in a grid of a drawn table -/
def Stands (n:Nat) (a:GC):Prop:=(0≤a.row∧1≤a.rows∧a.rows≤3∧a.row+a.rows≤n)∧(0≤a.col∧a.col≤84)∧(1≤a.cols∧a.cols≤4)∧0≤a.ins∧a.ins≤4
theorem endOf_bounds {t:T} (h:Low t) {r:Nat} (hr:r < t.rows.length):(r:Int) < endOf t r∧endOf t r≤t.rows.length:=by
 have h1:=h.head
 have h2:=h.foot
 unfold endOf
 split
 ·omega
 ·split <;> omega
/-- how many of the first rows' cells have a row -/
def cntRow (gs:List GC) (q:Int):Nat:=gs.countP fun a=>decide (a.row=q)
theorem cntRow_snoc (gs:List GC) (x:GC) (q:Int):cntRow (gs ++ [x]) q=cntRow gs q+if x.row=q then 1 else 0:=by
 simp [cntRow,List.countP_append,List.countP_cons]
/-- cells that have a row in common with one in row r begin in row r or one of the two above -/
theorem meet_cnt (r:Nat) (x:GC) (hx:x.row=r):∀ gs:List GC,(∀ a ∈ gs,a.row≤r∧a.rows≤3)→(gs.filter fun a=>rowMeets a x).length≤cntRow gs r+(cntRow gs ((r:Int) - 1)+cntRow gs ((r:Int) - 2))
 | [],_=>by simp
 | a :: t,h=>by
  have ih:=meet_cnt r x hx t (fun b hb=>h b (by simp [hb]))
  have ha:=h a (by simp)
  unfold cntRow at ih ⊢
  rw [List.countP_cons,List.countP_cons,List.countP_cons,List.filter_cons]
  split
  ·rename_i hm
   simp only [rowMeets,Bool.and_eq_true,decide_eq_true_eq] at hm
   rw [List.length_cons]
   rcases (by omega:a.row=r∨a.row=(r:Int) - 1∨a.row=(r:Int) - 2) with e | e | e
   ·simp [e];omega
   ·simp [e];omega
   ·simp [e];omega
  ·omega
/-- what is known behind some rows and some cells of the next one -/
structure Part (t:T) (gs:List GC) (r i:Nat):Prop where
 stands:∀ a ∈ gs,Stands t.rows.length a∧a.row≤r
 cnt:∀ q:Nat,cntRow gs q=if q < r then (t.rows.getD q dR).cells.length else if q=r then i else 0
 neg:∀ q:Int,q < 0→cntRow gs q=0
theorem Part.few {t:T} {gs:List GC} {r i:Nat} (h:Part t gs r i) (hl:Low t) (hi:i < (t.rows.getD r dR).cells.length) (x:GC) (hx:x.row=r):(gs.filter fun a=>rowMeets a x).length≤12:=by
 have h1:=meet_cnt r x hx gs (fun a ha=>⟨(h.stands a ha).2,(h.stands a ha).1.1.2.2.1⟩)
 obtain ⟨k,hk⟩:=hl.few
 have k0:=hk r
 have c0:=h.cnt r
 rw [if_neg (by omega),if_pos rfl] at c0
 have c1:cntRow gs ((r:Int) - 1)≤if r - 1=k∧1≤r then 5 else 4:=by
  by_cases hr:1≤r
  ·have e:=h.cnt (r - 1)
   rw [if_pos (by omega),show ((r - 1:Nat):Int)=(r:Int) - 1 by omega] at e
   have:=hk (r - 1)
   split at this <;> split <;> omega
  ·rw [h.neg _ (by omega)];omega
 have c2:cntRow gs ((r:Int) - 2)≤if r - 2=k∧2≤r then 5 else 4:=by
  by_cases hr:2≤r
  ·have e:=h.cnt (r - 2)
   rw [if_pos (by omega),show ((r - 2:Nat):Int)=(r:Int) - 2 by omega] at e
   have:=hk (r - 2)
   split at this <;> split <;> omega
  ·rw [h.neg _ (by omega)];omega
 split at k0 <;> split at c1 <;> split at c2 <;> omega
theorem getD_mem' {α:Type} {l:List α} {i:Nat} {d:α} (h:i < l.length):l.getD i d ∈ l:=by
 have e:l.getD i d=l[i]:=by simp [List.getD,h]
 rw [e];exact List.getElem_mem _
/-- the next cell: it finds its column ahead of the 85th -/
theorem Part.next {t:T} {gs:List GC} {r i:Nat} (h:Part t gs r i) (hl:Low t) (hr:r < t.rows.length) (hi:i < (t.rows.getD r dR).cells.length) :
  (let x:=bare r i (endOf t r) ((t.rows.getD r dR).cells.getD i dC)
   ffree gs x≤84∧freeG gs (atCol x (ffree gs x))=true∧(∀ k,k < ffree gs x→freeG gs (atCol x (k:Nat))=false)∧∀ k:Nat,k≤84→Stands t.rows.length (atCol x k)) ∧
  Part t (gs ++ [place gs r i (endOf t r) ((t.rows.getD r dR).cells.getD i dC)]) r (i+1):=by
 have hm:=getD_mem' (d:=dR) hr
 have hx:=hl.span _ hm _ (getD_mem' (d:=dC) hi)
 have he:=endOf_bounds hl hr
 have hi5:i≤4:=by
  obtain ⟨k,hk⟩:=hl.few
  have:=hk r
  split at this <;> omega
 dsimp only
 generalize hX:(t.rows.getD r dR).cells.getD i dC=x at hx
 have hf:=h.few hl hi (bare r i (endOf t r) x) rfl
 obtain ⟨c,hc,hfree⟩:=free_exists gs (bare r i (endOf t r) x) hx.1 (fun a ha=>(h.stands a ha).1.2.2.1)
 obtain ⟨f1,f2,f3⟩:=ffree_le (by omega) hfree
 have hst:∀ k:Nat,k≤84→Stands t.rows.length (atCol (bare r i (endOf t r) x) k):=by
  intro k hk
  simp only [Stands,atCol,bare]
  omega
 refine ⟨⟨by omega,f2,f3,hst⟩,?_,?_,?_⟩
 ·intro a ha
  rcases List.mem_append.1 ha with ha | ha
  ·exact h.stands a ha
  ·simp at ha
   subst ha
   exact ⟨hst _ (by omega),Int.le_refl _⟩
 ·intro q
  have hrow:(place gs r i (endOf t r) x).row=(r:Int):=rfl
  rw [cntRow_snoc,h.cnt q,hrow]
  by_cases h1:q < r
  ·rw [if_pos h1,if_pos h1,if_neg (by omega:¬ (r:Int)=q),Nat.add_zero]
  ·rw [if_neg h1,if_neg h1]
   by_cases h2:q=r
   ·subst h2;simp
   ·rw [if_neg h2,if_neg h2,if_neg (by omega)]
 ·intro q hq
  have hrow:(place gs r i (endOf t r) x).row=(r:Int):=rfl
  rw [cntRow_snoc,h.neg q hq,hrow,if_neg (by omega)]
theorem Part.zero (t:T):Part t [] 0 0:=⟨fun a ha=>(by cases ha),fun q=>(by simp [cntRow]),fun q _=>(by simp [cntRow])⟩
theorem Part.rowEnd {t:T} {gs:List GC} {r:Nat} (h:Part t gs r (t.rows.getD r dR).cells.length):Part t gs (r+1) 0:=by
 refine ⟨fun a ha=>⟨(h.stands a ha).1,by have:=(h.stands a ha).2;omega⟩,fun q=>?_,h.neg⟩
 rw [h.cnt q]
 by_cases h1:q < r
 ·rw [if_pos h1,if_pos (by omega)]
 ·rw [if_neg h1]
  by_cases h2:q=r
  ·subst h2;simp
  ·rw [if_neg h2,if_neg (by omega)]
   split <;> rfl
theorem part_row {t:T} (hl:Low t) {r:Nat} (hr:r < t.rows.length) (h:Part t (gridTo t r) r 0):∀ i,i≤(t.rows.getD r dR).cells.length→Part t (rowTo (endOf t r) r (t.rows.getD r dR).cells (gridTo t r) i) r i
 | 0,_=>h
 | i+1,hi=>(Part.next (part_row hl hr h i (by omega)) hl hr (by omega)).2
theorem part_grid {t:T} (hl:Low t):∀ r,r≤t.rows.length→Part t (gridTo t r) r 0
 | 0,_=>Part.zero t
 | r+1,hr=>(part_row hl (by omega) (part_grid hl r (by omega)) _ (Nat.le_refl _)).rowEnd
theorem rowTo_len (e:Int) (r:Nat) (cs:List C) (gs:List GC) (i:Nat):(rowTo e r cs gs i).length=gs.length+i:=by
 induction i with
 | zero=>rfl
 | succ i ih=>simp only [rowTo,List.length_append,ih,List.length_cons,List.length_nil];omega
theorem grid_len {t:T} (hl:Low t) (r:Nat):(gridTo t r).length≤5 * r:=by
 induction r with
 | zero=>simp [gridTo]
 | succ r ih =>
  obtain ⟨k,hk⟩:=hl.few
  have:=hk r
  simp only [gridTo,rowTo_len]
  split at this <;> omega
/-- the grid of a drawn table -/
def gridOf (t:T):List GC:=gridTo t t.rows.length
end Go.Proofs.Ytggmjiddadjilaj
namespace Go.Proofs.Ytggmjiddadjilaj
open Go.RowKit

/-- a world in which what was in memory is as it was -/
structure BW (w:World) where
 u:World
 h:Below w.heap.size w u
theorem bw_some (w:World):Nonempty (BW w):=⟨⟨w,Below.refl _ _⟩⟩
theorem wp_region_quiet_below {P:Program} {id:Nat} {Q:Exit→Act→World→Prop} {a:Act} {w:World} {l:List Oper} (hm:P.follows .mixedOrders=true) (hB:Region.lexB .any l.toArray=true)
  (h:wpQuiet P l.toArray (fun w'=>∃ p:BW w,w'=p.u) (fun a'=>∀ w',(∃ p:BW w,w'=p.u)→Q .normal a' w') l a):(Code.region id l.toArray true).wp P Q a w :=
 wp_region_quiet (C:=fun w'=>∃ p:BW w,w'=p.u) hm hB ⟨⟨_,k_drew (Below.refl _ _)⟩,rfl⟩ (by simpa using h)
theorem bw_of {P:Program} {f:FuncId} {args:Array Value} {w:World} {p:BW w} {v:Value} (h:Calls P f args p.u fun e w'=>e=.returned v∧Below p.u.heap.size p.u w') :
  Calls P f args p.u fun e w''=>e=.returned v∧∃ p:BW w,w''=p.u :=
 h.mono fun _ _ ⟨he,hb⟩=>⟨he,⟨_,k_trans p.h hb⟩,rfl⟩
theorem bw_cell {w:World} {a:Addr} {v:Value} (hb:a.block < w.heap.size) (h:w.cell? a=some v) (p:BW w):p.u.cell? a=some v:=(p.h.cell hb).trans h
end Go.Proofs.Ytggmjiddadjilaj
namespace Go.Proofs.Ytggmjiddadjilaj
open Go.RowKit Go.BigFrame

/-- no number of a cell is great -/
def Sm (x:GC):Prop:=(0≤x.row∧x.row≤100000)∧(0≤x.col∧x.col≤100000)∧(0≤x.rows∧x.rows≤100000)∧(0≤x.cols∧x.cols≤100000)
theorem GsAt.take {w:World} {z:Nat} {ac:Option Addr} {cc:Nat} {gs:List GC} (h:GsAt w z (.slice ac gs.length cc) gs) {k:Nat} (hk:k≤gs.length):GsAt w z (.slice ac (gs.take k).length cc) (gs.take k):=by
 obtain ⟨a,cap,e,h1,h2,hx⟩:=h
 simp only [Value.slice.injEq,true_and] at e
 obtain ⟨rfl,rfl⟩:=e
 have hl:(gs.take k).length=k:=by rw [List.length_take];omega
 refine ⟨_,_,rfl,by omega,h2,fun i hi=>?_⟩
 obtain ⟨b,off,ea,hb,hz,he⟩:=hx i (by omega)
 have e:(gs.take k).getD i dG=gs.getD i dG:=by simp [List.getD,show i < k by omega]
 exact ⟨b,off,ea,hb,hz,by dsimp only;rw [e];exact he⟩

def gcA (x:GC):Value:=.agg #[.int .i64 x.row,.int .i64 x.col,.int .i64 x.rows,.int .i64 x.cols,.int .i64 x.ins]
end Go.Proofs.Ytggmjiddadjilaj
namespace Go.Proofs.Ytggmjiddadjilaj
open Go.RowKit

/-- A reader at block r: over a code of at most 2000 bytes; at most B numbers have been picked. -/
def Rd (w:World) (r B:Nat):Prop :=
 ∃ (a:Option Addr) (len cap p:Nat),p≤B∧len≤2000∧w.heap[r]?=some (.cells #[.slice a len cap,.int .i64 p] 98) ∧
  ∀ i,i < len→∃ (b off:Nat) (z:Int),a=some ⟨b,off,none⟩∧b < r∧w.cell? ⟨b,off+i,none⟩=some (.int .u8 z)∧0≤z∧z≤255

theorem Rd.lt {w:World} {r B:Nat} (h:Rd w r B):r < w.heap.size:=by
 obtain ⟨a,len,cap,p,_,_,hb,_⟩:=h
 exact (Array.getElem?_eq_some_iff.1 hb).1
theorem Rd.mono {w:World} {r B B':Nat} (h:Rd w r B) (hB:B≤B'):Rd w r B':=by
 obtain ⟨a,len,cap,p,h1,h⟩:=h
 exact ⟨a,len,cap,p,by omega,h⟩
/-- A reader stays one where its own block and all older ones stay. -/
theorem Rd.kept {w w':World} {r B:Nat} (h:Rd w r B) (hb:Below w.heap.size w w'):Rd w' r B:=by
 have hlt:=h.lt
 obtain ⟨a,len,cap,p,h1,h2,hk,hc⟩:=h
 refine ⟨a,len,cap,p,h1,h2,(hb.block r hlt).trans hk,fun i hi=>?_⟩
 obtain ⟨b,off,z,e,l,c,z0,z1⟩:=hc i hi
 exact ⟨b,off,z,e,l,(hb.cell (p:=⟨b,off+i,none⟩) (Nat.lt_trans l hlt)).trans c,z0,z1⟩
/-- .. where its own block and all ahead of it stay. -/
theorem Rd.keep {w w':World} {r B:Nat} (h:Rd w r B) (hk:∀ k,k≤r→w'.heap[k]?=w.heap[k]?):Rd w' r B:=by
 obtain ⟨a,len,cap,p,h1,h2,hb,hc⟩:=h
 refine ⟨a,len,cap,p,h1,h2,(hk r (Nat.le_refl _)).trans hb,fun i hi=>?_⟩
 obtain ⟨b,off,z,e,l,c,z0,z1⟩:=hc i hi
 exact ⟨b,off,z,e,l,(World.cell?_of_block (w:=w) (a:=⟨b,off+i,none⟩) (hk b (Nat.le_of_lt l))).trans c,z0,z1⟩
theorem Rd.alloc {w:World} {r B:Nat} (h:Rd w r B) (o:Obj):Rd (w.alloc o) r B:=h.kept (k_alloc (Below.refl _ _) _)
theorem Rd.set {w:World} {r B:Nat} (h:Rd w r B) {p:Addr} (hp:r < p.block) (u:Value):Rd (w.setCell p u) r B:=h.keep (fun _ hk=>Below.heap_setCell _ _ _ _ (by omega))
theorem Rd.drew {w:World} {r B:Nat} (h:Rd w r B):Rd w.drew r B:=h.kept (k_drew (Below.refl _ _))

/-- within 0 .. n - 1, where there is such a number -/
def InR (n k:Int):Prop:=1≤n→0≤k∧k < n

theorem i64_xor_nonneg (a b:Int) (h1:0≤a) (h2:a < 4611686018427387904) (h3:0≤b) (h4:b < 4611686018427387904):0≤bits .xor .i64 a b:=by
 obtain ⟨A,rfl⟩:=Int.eq_ofNat_of_zero_le h1
 obtain ⟨B,rfl⟩:=Int.eq_ofNat_of_zero_le h3
 have hx:A ^^^ B < 2 ^ 62:=Nat.xor_lt_two_pow (by omega) (by omega)
 have e:bits .xor .i64 (A:Int) (B:Int)=IntKind.i64.wrap ((BitVec.ofInt 64 (A:Int) ^^^ BitVec.ofInt 64 (B:Int)).toNat:Int):=rfl
 rw [e,BitVec.toNat_xor,ofInt_u64 A (by omega),ofInt_u64 B (by omega)]
 simp [IntKind.wrap,IntKind.bits,IntKind.signed]
 omega

theorem wrap64_in {x:Int} (h1:0≤x) (h2:x < 4611686018427387904):wrap64 x=x:=by unfold wrap64;omega
theorem pick_math (n z y:Int) (p len:Nat) (hn:1≤n) (hp:p≤1000000) (z0:0≤z) (z1:z≤255) (y0:0≤y) (y1:y≤255) :
  InR n ((bits BinOp.xor IntKind.i64 (wrap64 (z * 131+y * 1117+(p:Int) * 29+wrap64 (wrap64 ((p:Int) / (len:Int)) * 53)))
   (wrap64 ((wrap64 (z * 131+y * 1117+(p:Int) * 29+wrap64 (wrap64 ((p:Int) / (len:Int)) * 53))).tdiv 64))).tmod n):=by
 have q0:0≤(p:Int) / (len:Int):=Int.ediv_nonneg (by omega) (by omega)
 have q1:(p:Int) / (len:Int)≤p:=Int.ediv_le_self _ (by omega)
 generalize (p:Int) / (len:Int)=q at q0 q1 ⊢
 rw [wrap64_in q0 (by omega),wrap64_in (x:=q * 53) (by omega) (by omega),wrap64_in (x:=z * 131+y * 1117+(p:Int) * 29+q * 53) (by omega) (by omega)]
 have X0:0≤z * 131+y * 1117+(p:Int) * 29+q * 53:=by omega
 have X1:z * 131+y * 1117+(p:Int) * 29+q * 53 < 4611686018427387904:=by omega
 generalize z * 131+y * 1117+(p:Int) * 29+q * 53=X at X0 X1 ⊢
 rw [Int.tdiv_eq_ediv_of_nonneg X0,wrap64_in (x:=X / 64) (by omega) (by omega)]
 have hx:=i64_xor_nonneg X (X / 64) X0 X1 (by omega) (by omega)
 generalize bits BinOp.xor IntKind.i64 X (X / 64)=Y at hx ⊢
 intro _
 rw [Int.tmod_eq_emod_of_nonneg hx]
 exact ⟨Int.emod_nonneg _ (by omega),Int.emod_lt_of_pos _ (by omega)⟩

theorem rd_next {w:World} {r B:Nat} {a:Option Addr} {len cap p:Nat} (hp:p≤B) (hl:len≤2000) (hk:w.heap[r]?=some (.cells #[.slice a len cap,.int .i64 p] 98))
  (hc:∀ i,i < len→∃ (b off:Nat) (z:Int),a=some ⟨b,off,none⟩∧b < r∧w.cell? ⟨b,off+i,none⟩=some (.int .u8 z)∧0≤z∧z≤255) :
  Rd (w.setCell ⟨r,1,none⟩ (.int .i64 ((p:Int)+1))) r (B+1)∧Bk r w (w.setCell ⟨r,1,none⟩ (.int .i64 ((p:Int)+1))):=by
 have bk:Bk r w (w.setCell ⟨r,1,none⟩ (.int .i64 ((p:Int)+1))):=(Bk.refl r w).set (Or.inl rfl) _
 refine ⟨⟨a,len,cap,p+1,by omega,hl,?_,fun i hi=>?_⟩,bk⟩
 ·rw [Joins.block_setCell hk]
  simp
 ·obtain ⟨b,off,z,e,l,c,z0,z1⟩:=hc i hi
  exact ⟨b,off,z,e,l,(bk.cell (p:=⟨b,off+i,none⟩) (Nat.lt_trans l (Array.getElem?_eq_some_iff.1 hk).1) (Nat.ne_of_lt l)).trans c,z0,z1⟩
theorem Rd.draws {w:World} {r B:Nat} (h:Rd w r B) (n:Nat):Rd (w.drewN n) r B:=h.kept (k_drewN (Below.refl _ _) n)

set_option maxRecDepth 100000 in
set_option maxHeartbeats 1000000 in
theorem pick_any (r B:Nat) (n:Int) (w:World) (h:Rd w r B) (hB:B≤1000000) :
  Calls Try.prog 34 #[.pointer (some ⟨r,0,none⟩),.int .i64 n] w fun e w'=>∃ k:Int,e=.returned (.int .i64 k)∧InR n k∧Rd w' r (B+1)∧Bk r w w':=by
 have hlt:=h.lt
 obtain ⟨a,len,cap,p,hp,hl,hk,hc⟩:=h
 have c0:w.cell? ⟨r,0,none⟩=some (.slice a len cap):=by simp [World.cell?,hk]
 have c1:w.cell? ⟨r,1,none⟩=some (.int .i64 p):=by simp [World.cell?,hk]
 have f1:w.frozen? ⟨r,1,none⟩=false:=by simp [World.frozen?,hk]
 obtain ⟨N1,N2⟩:=rd_next hp hl hk hc
 have HN1:Hid (Rd (w.setCell ⟨r,1,none⟩ (.int .i64 ((p:Int)+1))) r (B+1)):=N1
 have HN2:Hid (Bk r w (w.setCell ⟨r,1,none⟩ (.int .i64 ((p:Int)+1)))):=N2
 clear N1 N2 hk
 by_cases hn:n < 1
 ·as_aux_lemma =>
   clear hc
   go_enter Try.func34,Try.ntmps34
   go_wp2
   go_ret
   exact ⟨0,rfl,fun h=>absurd h (by omega),HN1.out,HN2.out⟩
 by_cases hz:len=0
 ·as_aux_lemma =>
   have hz':((len:Int) == 0)=true:=beq_iff_eq.2 (by omega)
   clear hc hz
   go_enter Try.func34,Try.ntmps34
   go_wp2
   go_ret
   exact ⟨0,rfl,fun h=>by omega,HN1.out,HN2.out⟩
 have hz':((len:Int) == 0)=false:=beq_eq_false_iff_ne.2 (by omega)
 have hn1:1≤n:=by omega
 by_cases hpl:p < len
 ·as_aux_lemma =>
   obtain ⟨b,off,z,rfl,hbr0,hcz,hz0,hz1⟩:=hc p hpl
   have hbr:b ≠ r:=by omega
   have hbl:b < w.heap.size:=by omega
   have c2:∀ v,(w.setCell ⟨r,1,none⟩ v).cell? ⟨b,off+p,none⟩=some (.int .u8 z):=fun v=>((Bk.refl r w).set (p:=⟨r,1,none⟩) (Or.inl rfl) v).cell (p:=⟨b,off+p,none⟩) hbl hbr |>.trans hcz
   clear hc hcz hz hbl
   go_enter Try.func34,Try.ntmps34
   go_wp2
   go_ret
   exact ⟨_,rfl,fun _=>⟨Int.emod_nonneg _ (by omega),Int.emod_lt_of_pos _ (by omega)⟩,HN1.out,HN2.out⟩
 ·as_aux_lemma =>
   have hm1:p % len < len:=Nat.mod_lt _ (by omega)
   have hm2:(p * 7+3) % len < len:=Nat.mod_lt _ (by omega)
   obtain ⟨b,off,z,rfl,hbr0,hcz,hz0,hz1⟩:=hc _ hm1
   have hbr:b ≠ r:=by omega
   have hbl:b < w.heap.size:=by omega
   obtain ⟨b',off',y,e',hbr',hcy,hy0,hy1⟩:=hc _ hm2
   simp only [Option.some.injEq,Addr.mk.injEq] at e'
   obtain ⟨rfl,rfl,_⟩:=e'
   have c2:∀ v,(w.setCell ⟨r,1,none⟩ v).cell? ⟨b,off+p % len,none⟩=some (.int .u8 z):=fun v=>((Bk.refl r w).set (p:=⟨r,1,none⟩) (Or.inl rfl) v).cell (p:=⟨b,off+p % len,none⟩) hbl hbr |>.trans hcz
   have c3:∀ v,(w.setCell ⟨r,1,none⟩ v).cell? ⟨b,off+(p * 7+3) % len,none⟩=some (.int .u8 y):=fun v=>((Bk.refl r w).set (p:=⟨r,1,none⟩) (Or.inl rfl) v).cell (p:=⟨b,off+(p * 7+3) % len,none⟩) hbl hbr |>.trans hcy
   have i1:0≤((p:Int) * 7+3) % (len:Int):=Int.emod_nonneg _ (by omega)
   have i2:((p:Int) * 7+3) % (len:Int) < (len:Int):=Int.emod_lt_of_pos _ (by omega)
   have i3:(((p:Int) * 7+3) % (len:Int)).toNat=(p * 7+3) % len:=by
    have:((p:Int) * 7+3) % (len:Int)=(((p * 7+3) % len:Nat):Int):=by simp
    rw [this,Int.toNat_natCast]
   clear hc hcz hcy hz hbl hbr'
   go_enter Try.func34,Try.ntmps34
   go_wp2
   refine wp_region_quiet_lit (by kernel_rfl) (by kernel_rfl) ?_
   repeat (go_big_quiet_step (fail))
   refine wpQuiet_nil ?_
   intro _ hw'
   obtain ⟨nq,hw''⟩:=hw'
   subst hw''
   go_wp2
   go_ret
   refine ⟨_,rfl,?_,HN1.out.draws _,HN2.out.drewN _⟩
   exact pick_math n z y p len hn1 (by omega) hz0 hz1 hy0 hy1

/-- What the walk is told of the code that came in: bytes in memory, or nil. -/
def IsCode (w:World) (a:Option Addr) (len cap:Nat):Prop :=
 len≤cap∧cap≤maxLen∧∀ i,i < len→∃ (b off:Nat) (z:Int),a=some ⟨b,off,none⟩∧b < w.heap.size∧w.cell? ⟨b,off+i,none⟩=some (.int .u8 z)∧0≤z∧z≤255

theorem isCode_nil (w:World):IsCode w none 0 0:=⟨Nat.le_refl _,Nat.zero_le _,fun _ hi=>absurd hi (Nat.not_lt_zero _)⟩
theorem block_of_cell {w:World} {b o:Nat} {v:Value} (h:w.cell? ⟨b,o,none⟩=some v):b < w.heap.size:=by
 rcases Nat.lt_or_ge b w.heap.size with h1 | h1
 ·exact h1
 ·simp [World.cell?,Array.getElem?_eq_none h1] at h
theorem getD_mem {zs:List Int} {i:Nat} (h:i < zs.length):zs.getD i 0 ∈ zs:=by
 have e:zs.getD i 0=zs[i]:=by simp [List.getD,h]
 rw [e];exact List.getElem_mem _
theorem isCode_of {w:World} {x:Addr} {len cap:Nat} {zs:List Int} (hl:len≤cap) (hm:cap≤maxLen) (hz:zs.length=cap) (hcell:∀ i,i < zs.length→w.cell? (x.add i)=some (.int .u8 (zs.getD i 0)))
  (hw:∀ n ∈ zs,(Lit.int .u8 n).wf=true):IsCode w (some x) len cap:=by
 refine ⟨hl,hm,fun i hi=>?_⟩
 obtain ⟨b,off,rfl,hc⟩:=ints_at hcell (by omega)
 have hci:=hc i (by omega)
 have hb:=bounds_u8 (hw _ (getD_mem (zs:=zs) (i:=i) (by omega)))
 exact ⟨b,off,_,rfl,block_of_cell hci,hci,hb.1,hb.2⟩

theorem rd_open {w:World} {a:Option Addr} {len cap:Nat} (L:Nat) (hL:L≤len) (h2:L≤2000)
  (hc:∀ i,i < len→∃ (b off:Nat) (z:Int),a=some ⟨b,off,none⟩∧b < w.heap.size∧w.cell? ⟨b,off+i,none⟩=some (.int .u8 z)∧0≤z∧z≤255) :
  Rd (w.alloc (.cells #[.slice a L cap,.int .i64 0] 98)) w.heap.size 0:=by
 refine ⟨a,L,cap,0,Nat.le_refl _,h2,?_,fun i hi=>?_⟩
 ·show (w.heap.push _)[w.heap.size]?=_
  simp
 ·obtain ⟨b,off,z,e,l,c,z0,z1⟩:=hc i (by omega)
  refine ⟨b,off,z,e,l,?_,z0,z1⟩
  exact ((k_alloc (Below.refl w.heap.size w) _).cell (p:=⟨b,off+i,none⟩) l).trans c

set_option maxRecDepth 100000 in
set_option maxHeartbeats 400000 in
theorem open_any (a:Option Addr) (len cap:Nat) (w:World) (h:IsCode w a len cap) :
  Calls Try.prog 32 #[.slice a len cap] w fun e w'=>e=.returned (.pointer (some ⟨w.heap.size,0,none⟩))∧Rd w' w.heap.size 0∧Below w.heap.size w w':=by
 obtain ⟨h1,h2,hc⟩:=h
 unfold maxLen at h2
 by_cases hl:(2000:Int) < (len:Int)
 ·go_enter Try.func32,Try.ntmps32
  go_wp2
  go_ret
  exact ⟨rfl,rd_open 2000 (by omega) (by omega) hc,k_alloc (Below.refl _ _) _⟩
 ·go_enter Try.func32,Try.ntmps32
  go_wp2
  go_ret
  exact ⟨rfl,rd_open len (by omega) (by omega) hc,k_alloc (Below.refl _ _) _⟩
end Go.Proofs.Ytggmjiddadjilaj
namespace Go.Proofs.Ytggmjiddadjilaj
open Go.RowKit

def partOf (t:T) (q:Int):Int:=if tblB t=true∧inB q 0 (t.rows.length - 1)=true then (if q < t.head then 0 else if t.rows.length - t.foot≤q then 2 else 1) else -1
theorem retIP {a b:Int} (h:a=b):Ending.returned (.int .i64 a)=.returned (.int .i64 b):=by rw [h]
theorem tblB_bounds {t:T} (h:tblB t=true):(1≤t.rows.length∧t.rows.length≤8)∧(0≤t.head∧t.head≤t.rows.length)∧0≤t.foot∧t.foot≤t.rows.length:=by
 simp only [tblB,partsB,Bool.and_eq_true] at h
 have h1:(1:Int)≤t.rows.length∧(t.rows.length:Int)≤8:=of_decide_eq_true h.1
 have h2:0≤t.head∧t.head≤t.rows.length:=of_decide_eq_true h.2.1.1
 have h3:0≤t.foot∧t.foot≤t.rows.length - t.head:=of_decide_eq_true h.2.1.2
 omega
end Go.Proofs.Ytggmjiddadjilaj
namespace Go.Proofs.Ytggmjiddadjilaj
open Go.RowKit

/-- a cell's five cells -/
def gcVs (x:GC):List Value:=[.int .i64 x.row,.int .i64 x.col,.int .i64 x.rows,.int .i64 x.cols,.int .i64 x.ins]
def OwnG (w:World) (base:Nat) (v:Value) (gs:List GC):Prop:=w.ownsRow base 29 5 v gs.length (gs.flatMap gcVs)
theorem OwnG.at {w:World} {base:Nat} {v:Value} {gs:List GC} (h:OwnG w base v gs) (hs:∀ x ∈ gs,GOk x):GsAt w base v gs:=by
 rcases h.2 with ⟨rfl,hn⟩ | ⟨g,cap,cur,rfl,hg,hc,h1,h2,_⟩
 ·exact ⟨none,0,by rw [hn],by omega,by unfold maxLen;omega,fun i hi=>by omega⟩
 ·refine ⟨_,cap,rfl,h1,h2,fun i hi=>⟨g,0,rfl,(Array.getElem?_eq_some_iff.1 hc).1,hg,?_,?_⟩⟩
  ·have hx:∀ j,j < 5→w.cell? ⟨g,i * 5+j,none⟩=(gcVs gs[i])[j]?:=fun j hj=>by
    have e:=flat_get gcVs 5 (fun _=>rfl) gs i hi j hj
    rw [row_cell h (u:=(gcVs gs[i])[j]'(by show j < 5;exact hj)) (by rw [e];simp)]
    simp
   rw [getD_get dG hi,Nat.zero_add]
   exact ⟨hx 0 (by omega),hx 1 (by omega),hx 2 (by omega),hx 3 (by omega),hx 4 (by omega)⟩
  ·rw [getD_get dG hi]
   exact hs _ (List.getElem_mem hi)
theorem Stands.gok {n:Nat} {a:GC} (hn:n≤8) (h:Stands n a):GOk a:=by
 unfold Stands at h
 unfold GOk I64
 omega
theorem infoGC:(Try.prog.info? 29).map (fun i=>(i.zero,i.size,i.bytes))=some (some (Value.agg #[.int .i64 0,.int .i64 0,.int .i64 0,.int .i64 0,.int .i64 0]),5,40):=by kernel_rfl
end Go.Proofs.Ytggmjiddadjilaj
