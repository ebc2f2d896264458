/-
  PROVED HERE: how a drawn table's cells are put at their places, row by row, each at the first column at which it is free: each finds it ahead of the 85th, since no more than twelve cells have a row in common with it and each shuts seven columns at most. Also: what the model's l1Max, l2Part and l2End answer; cells of a grid that a call owns lie in memory. Also: the grid of a drawn table, and that its cells are few and small where the table is ok. Also: where each cell of a drawn table's grid stands: in its row, behind the one ahead of it, at the first column at which it is free; the grid is ok; it has as many cells as the table. Also: what stays all along a law over a table's grid: the table in its box, the grid in its own, both in memory.
-/
import Derived.Test.YtggmjiddadjilacG16
import Derived.Test.YtggmjiddadjilacG17
import Derived.Test.YtggmjiddadjilacG6
import Derived.Test.YtggmjiddadjilacG7
import Derived.Test.YtggmjiddadjilacG15
import Derived.WalkLawsBesides
import Derived.WalkSpells
namespace Go.Proofs.Ytggmjiddadjilac

/-- an interval of seven shuts no more than seven columns -/
theorem cnt7 (l:Int) (N:Nat):(((List.range N).countP (fun c:Nat=>decide (l≤(c:Int)∧(c:Int) < l+7)):Nat):Int)≤max 0 (min 7 (N - l)):=by
 induction N with
 | zero=>simp;omega
 | succ N ih =>
  rw [List.range_succ,List.countP_append,List.countP_cons,List.countP_nil]
  by_cases h:l≤(N:Int)∧(N:Int) < l+7
  ·rw [if_pos (decide_eq_true h)];omega
  ·rw [if_neg (by simpa using h)];omega
theorem countP_or {α:Type} (p q:α→Bool) (l:List α):l.countP (fun x=>p x || q x)≤l.countP p+l.countP q:=by
 induction l with
 | nil=>simp
 | cons a t ih =>
  rw [List.countP_cons,List.countP_cons,List.countP_cons]
  cases p a <;> cases q a <;> simp <;> omega
theorem shut_cnt (N:Nat):∀ ls:List Int,(List.range N).countP (fun c:Nat=>ls.any fun l=>decide (l≤(c:Int)∧(c:Int) < l+7))≤7 * ls.length
 | []=>by simp
 | l :: t=>by
  have h1:=shut_cnt N t
  have h2:=cnt7 l N
  have h3:=countP_or (fun c:Nat=>decide (l≤(c:Int)∧(c:Int) < l+7)) (fun c:Nat=>t.any fun l=>decide (l≤(c:Int)∧(c:Int) < l+7)) (List.range N)
  simp only [List.any_cons,List.length_cons]
  omega
theorem shut_some (ls:List Int):∃ c:Nat,c≤7 * ls.length∧∀ l ∈ ls,¬ (l≤(c:Int)∧(c:Int) < l+7):=by
 apply Classical.byContradiction
 intro hn
 have hall:∀ c ∈ List.range (7 * ls.length+1),(ls.any fun l=>decide (l≤(c:Int)∧(c:Int) < l+7))=true:=by
  intro c hc
  rw [List.mem_range] at hc
  apply Classical.byContradiction
  intro h
  refine hn ⟨c,by omega,fun l hl h2=>h ?_⟩
  exact List.any_eq_true.2 ⟨l,hl,decide_eq_true h2⟩
 have h1:=List.countP_eq_length.2 hall
 have h2:=shut_cnt (7 * ls.length+1) ls
 rw [List.length_range] at h1
 omega
/-- a cell at another column -/
def atCol (x:GC) (c:Int):GC:=⟨x.row,c,x.rows,x.cols,x.ins⟩
/-- whether two cells have a row in common -/
def rowMeets (a x:GC):Bool:=decide (a.row < x.row+x.rows) && decide (x.row < a.row+a.rows)
theorem free_exists (gs:List GC) (x:GC) (hx:1≤x.cols∧x.cols≤4) (hg:∀ a ∈ gs,1≤a.cols∧a.cols≤4):∃ c:Nat,c≤7 * (gs.filter fun a=>rowMeets a x).length∧freeG gs (atCol x c)=true:=by
 obtain ⟨c,h1,h2⟩:=shut_some ((gs.filter fun a=>rowMeets a x).map fun a=>a.col - x.cols+1)
 rw [List.length_map] at h1
 refine ⟨c,h1,List.all_eq_true.2 fun a ha=>?_⟩
 cases hm:meetsB a (atCol x c) with
 | false=>rfl
 | true =>
  exfalso
  unfold meetsB atCol at hm
  simp only [Bool.and_eq_true,decide_eq_true_eq] at hm
  have hc:=hg a ha
  refine h2 (a.col - x.cols+1) (List.mem_map.2 ⟨a,List.mem_filter.2 ⟨ha,?_⟩,rfl⟩) (by omega)
  simp only [rowMeets,Bool.and_eq_true,decide_eq_true_eq]
  omega
/-- the first column, of so many, at which a cell is free -/
def ffreeN (N:Nat) (gs:List GC) (x:GC):Nat:=(List.range N).findIdx (fun c:Nat=>freeG gs (atCol x c))
theorem ffreeN_le {N:Nat} {gs:List GC} {x:GC} {c:Nat} (hc:c < N) (h:freeG gs (atCol x c)=true):ffreeN N gs x≤c∧freeG gs (atCol x (ffreeN N gs x))=true∧∀ k,k < ffreeN N gs x→freeG gs (atCol x (k:Nat))=false:=by
 have hl:ffreeN N gs x < (List.range N).length:=List.findIdx_lt_length_of_exists ⟨c,List.mem_range.2 hc,h⟩
 have hno:∀ k,k < ffreeN N gs x→freeG gs (atCol x (k:Nat))=false:=by
  intro k hk
  have:=List.not_of_lt_findIdx (p:=fun c:Nat=>freeG gs (atCol x c)) (xs:=List.range N) hk
  simpa using this
 refine ⟨?_,?_,hno⟩
 ·apply Classical.byContradiction
  intro hn
  have:=hno c (by omega)
  rw [h] at this
  cases this
 ·have e:(List.range N)[ffreeN N gs x]'hl=ffreeN N gs x:=List.getElem_range hl
  have h1:freeG gs (atCol x (((List.range N)[ffreeN N gs x]'hl:Nat):Int))=true:=List.findIdx_getElem (p:=fun c:Nat=>freeG gs (atCol x c)) (xs:=List.range N) (w:=hl)
  rw [e] at h1
  exact h1
/-- the first column at which a cell is free -/
def ffree (gs:List GC) (x:GC):Nat:=ffreeN 1000 gs x
theorem ffree_le {gs:List GC} {x:GC} {c:Nat} (hc:c < 1000) (h:freeG gs (atCol x c)=true):ffree gs x≤c∧freeG gs (atCol x (ffree gs x))=true∧∀ k,k < ffree gs x→freeG gs (atCol x (k:Nat))=false:=ffreeN_le hc h
/-- the row behind the part of a row -/
def endOf (t:T) (r:Nat):Int:=if (r:Int) < t.head then t.head else if (t.rows.length:Int) - t.foot≤r then t.rows.length else t.rows.length - t.foot
/-- a cell in its row, its column not yet known -/
def bare (r i:Nat) (e:Int) (x:C):GC:=⟨r,0,min x.r (e - r),x.c,i⟩
/-- a cell put at its place -/
def place (gs:List GC) (r i:Nat) (e:Int) (x:C):GC:=atCol (bare r i e x) (ffree gs (bare r i e x))
/-- the first cells of a row put at their places -/
def rowTo (e:Int) (r:Nat) (cs:List C) (gs:List GC):Nat→List GC
 | 0=>gs
 | i+1=>rowTo e r cs gs i ++ [place (rowTo e r cs gs i) r i e (cs.getD i dC)]
/-- the cells of the first rows put at their places -/
def gridTo (t:T):Nat→List GC
 | 0=>[]
 | r+1=>rowTo (endOf t r) r (t.rows.getD r dR).cells (gridTo t r) (t.rows.getD r dR).cells.length
/-- how many columns there are -/
def colsOf (m:Int) (gs:List GC):Int:=gs.foldl (fun m a=>max m (a.col+a.cols)) m
theorem colsOf_snoc (m:Int) (gs:List GC) (x:GC):colsOf m (gs ++ [x])=max (colsOf m gs) (x.col+x.cols):=by simp [colsOf]
/-- what a drawn table's cells are, where it is ok: few, over no more than three rows -/
structure Low (t:T):Prop where
 rows:t.rows.length≤8
 span:∀ r ∈ t.rows,∀ x ∈ r.cells,(1≤x.c∧x.c≤4)∧1≤x.r∧x.r≤3
 few:∃ k,∀ i,(t.rows.getD i dR).cells.length≤if i=k then 5 else 4
 head:0≤t.head∧t.head≤t.rows.length
 foot:0≤t.foot∧t.head+t.foot≤t.rows.length
/-- a cell that stands in a grid of a drawn table -/
def Stands (n:Nat) (a:GC):Prop:=(0≤a.row∧1≤a.rows∧a.rows≤3∧a.row+a.rows≤n)∧(0≤a.col∧a.col≤84)∧(1≤a.cols∧a.cols≤4)∧0≤a.ins∧a.ins≤4
theorem endOf_bounds {t:T} (h:Low t) {r:Nat} (hr:r < t.rows.length):(r:Int) < endOf t r∧endOf t r≤t.rows.length:=by
 have h1:=h.head
 have h2:=h.foot
 unfold endOf
 split
 ·omega
 ·split <;> omega
/-- how many of the first rows' cells have a row -/
def cntRow (gs:List GC) (q:Int):Nat:=gs.countP fun a=>decide (a.row=q)
theorem cntRow_snoc (gs:List GC) (x:GC) (q:Int):cntRow (gs ++ [x]) q=cntRow gs q+if x.row=q then 1 else 0:=by
 simp [cntRow,List.countP_append,List.countP_cons]
/-- cells that have a row in common with one in row r begin in row r or one of the two above -/
theorem meet_cnt (r:Nat) (x:GC) (hx:x.row=r):∀ gs:List GC,(∀ a ∈ gs,a.row≤r∧a.rows≤3)→(gs.filter fun a=>rowMeets a x).length≤cntRow gs r+(cntRow gs ((r:Int) - 1)+cntRow gs ((r:Int) - 2))
 | [],_=>by simp
 | a :: t,h=>by
  have ih:=meet_cnt r x hx t (fun b hb=>h b (by simp [hb]))
  have ha:=h a (by simp)
  unfold cntRow at ih ⊢
  rw [List.countP_cons,List.countP_cons,List.countP_cons,List.filter_cons]
  split
  ·rename_i hm
   simp only [rowMeets,Bool.and_eq_true,decide_eq_true_eq] at hm
   rw [List.length_cons]
   rcases (by omega:a.row=r∨a.row=(r:Int) - 1∨a.row=(r:Int) - 2) with e | e | e
   ·simp [e];omega
   ·simp [e];omega
   ·simp [e];omega
  ·omega
/-- what is known behind some rows and some cells of the next one -/
structure Part (t:T) (gs:List GC) (r i:Nat):Prop where
 stands:∀ a ∈ gs,Stands t.rows.length a∧a.row≤r
 cnt:∀ q:Nat,cntRow gs q=if q < r then (t.rows.getD q dR).cells.length else if q=r then i else 0
 neg:∀ q:Int,q < 0→cntRow gs q=0
theorem Part.few {t:T} {gs:List GC} {r i:Nat} (h:Part t gs r i) (hl:Low t) (hi:i < (t.rows.getD r dR).cells.length) (x:GC) (hx:x.row=r):(gs.filter fun a=>rowMeets a x).length≤12:=by
 have h1:=meet_cnt r x hx gs (fun a ha=>⟨(h.stands a ha).2,(h.stands a ha).1.1.2.2.1⟩)
 obtain ⟨k,hk⟩:=hl.few
 have k0:=hk r
 have c0:=h.cnt r
 rw [if_neg (by omega),if_pos rfl] at c0
 have c1:cntRow gs ((r:Int) - 1)≤if r - 1=k∧1≤r then 5 else 4:=by
  by_cases hr:1≤r
  ·have e:=h.cnt (r - 1)
   rw [if_pos (by omega),show ((r - 1:Nat):Int)=(r:Int) - 1 by omega] at e
   have:=hk (r - 1)
   split at this <;> split <;> omega
  ·rw [h.neg _ (by omega)];omega
 have c2:cntRow gs ((r:Int) - 2)≤if r - 2=k∧2≤r then 5 else 4:=by
  by_cases hr:2≤r
  ·have e:=h.cnt (r - 2)
   rw [if_pos (by omega),show ((r - 2:Nat):Int)=(r:Int) - 2 by omega] at e
   have:=hk (r - 2)
   split at this <;> split <;> omega
  ·rw [h.neg _ (by omega)];omega
 split at k0 <;> split at c1 <;> split at c2 <;> omega
theorem getD_mem' {α:Type} {l:List α} {i:Nat} {d:α} (h:i < l.length):l.getD i d ∈ l:=by
 have e:l.getD i d=l[i]:=by simp [List.getD,h]
 rw [e];exact List.getElem_mem _
/-- the next cell: it finds its column ahead of the 85th -/
theorem Part.next {t:T} {gs:List GC} {r i:Nat} (h:Part t gs r i) (hl:Low t) (hr:r < t.rows.length) (hi:i < (t.rows.getD r dR).cells.length) :
  (let x:=bare r i (endOf t r) ((t.rows.getD r dR).cells.getD i dC)
   ffree gs x≤84∧freeG gs (atCol x (ffree gs x))=true∧(∀ k,k < ffree gs x→freeG gs (atCol x (k:Nat))=false)∧∀ k:Nat,k≤84→Stands t.rows.length (atCol x k)) ∧
  Part t (gs ++ [place gs r i (endOf t r) ((t.rows.getD r dR).cells.getD i dC)]) r (i+1):=by
 have hm:=getD_mem' (d:=dR) hr
 have hx:=hl.span _ hm _ (getD_mem' (d:=dC) hi)
 have he:=endOf_bounds hl hr
 have hi5:i≤4:=by
  obtain ⟨k,hk⟩:=hl.few
  have:=hk r
  split at this <;> omega
 dsimp only
 generalize hX:(t.rows.getD r dR).cells.getD i dC=x at hx
 have hf:=h.few hl hi (bare r i (endOf t r) x) rfl
 obtain ⟨c,hc,hfree⟩:=free_exists gs (bare r i (endOf t r) x) hx.1 (fun a ha=>(h.stands a ha).1.2.2.1)
 obtain ⟨f1,f2,f3⟩:=ffree_le (by omega) hfree
 have hst:∀ k:Nat,k≤84→Stands t.rows.length (atCol (bare r i (endOf t r) x) k):=by
  intro k hk
  simp only [Stands,atCol,bare]
  omega
 refine ⟨⟨by omega,f2,f3,hst⟩,?_,?_,?_⟩
 ·intro a ha
  rcases List.mem_append.1 ha with ha | ha
  ·exact h.stands a ha
  ·simp at ha
   subst ha
   exact ⟨hst _ (by omega),Int.le_refl _⟩
 ·intro q
  have hrow:(place gs r i (endOf t r) x).row=(r:Int):=rfl
  rw [cntRow_snoc,h.cnt q,hrow]
  by_cases h1:q < r
  ·rw [if_pos h1,if_pos h1,if_neg (by omega:¬ (r:Int)=q),Nat.add_zero]
  ·rw [if_neg h1,if_neg h1]
   by_cases h2:q=r
   ·subst h2;simp
   ·rw [if_neg h2,if_neg h2,if_neg (by omega)]
 ·intro q hq
  have hrow:(place gs r i (endOf t r) x).row=(r:Int):=rfl
  rw [cntRow_snoc,h.neg q hq,hrow,if_neg (by omega)]
theorem Part.zero (t:T):Part t [] 0 0:=⟨fun a ha=>(by cases ha),fun q=>(by simp [cntRow]),fun q _=>(by simp [cntRow])⟩
theorem Part.rowEnd {t:T} {gs:List GC} {r:Nat} (h:Part t gs r (t.rows.getD r dR).cells.length):Part t gs (r+1) 0:=by
 refine ⟨fun a ha=>⟨(h.stands a ha).1,by have:=(h.stands a ha).2;omega⟩,fun q=>?_,h.neg⟩
 rw [h.cnt q]
 by_cases h1:q < r
 ·rw [if_pos h1,if_pos (by omega)]
 ·rw [if_neg h1]
  by_cases h2:q=r
  ·subst h2;simp
  ·rw [if_neg h2,if_neg (by omega)]
   split <;> rfl
theorem part_row {t:T} (hl:Low t) {r:Nat} (hr:r < t.rows.length) (h:Part t (gridTo t r) r 0):∀ i,i≤(t.rows.getD r dR).cells.length→Part t (rowTo (endOf t r) r (t.rows.getD r dR).cells (gridTo t r) i) r i
 | 0,_=>h
 | i+1,hi=>(Part.next (part_row hl hr h i (by omega)) hl hr (by omega)).2
theorem part_grid {t:T} (hl:Low t):∀ r,r≤t.rows.length→Part t (gridTo t r) r 0
 | 0,_=>Part.zero t
 | r+1,hr=>(part_row hl (by omega) (part_grid hl r (by omega)) _ (Nat.le_refl _)).rowEnd
theorem rowTo_len (e:Int) (r:Nat) (cs:List C) (gs:List GC) (i:Nat):(rowTo e r cs gs i).length=gs.length+i:=by
 induction i with
 | zero=>rfl
 | succ i ih=>simp only [rowTo,List.length_append,ih,List.length_cons,List.length_nil];omega
theorem grid_len {t:T} (hl:Low t) (r:Nat):(gridTo t r).length≤5 * r:=by
 induction r with
 | zero=>simp [gridTo]
 | succ r ih =>
  obtain ⟨k,hk⟩:=hl.few
  have:=hk r
  simp only [gridTo,rowTo_len]
  split at this <;> omega
/-- the grid of a drawn table -/
def gridOf (t:T):List GC:=gridTo t t.rows.length
end Go.Proofs.Ytggmjiddadjilac
namespace Go.Proofs.Ytggmjiddadjilac
open Go.RowKit

theorem l1Max_any (a b:Int) (w:World):Calls Try.prog 74 #[.int .i64 a,.int .i64 b] w fun e w'=>e=.returned (.int .i64 (max a b))∧w'=w:=by
 by_cases h:b < a
 ·have HE:Hid (max a b=a):=Hid.intro (by omega)
  go_enter Try.func74,Try.ntmps74
  go_wp2
  go_ret
  exact ⟨retI64 HE.out.symm,rfl⟩
 ·have HE:Hid (max a b=b):=Hid.intro (by omega)
  go_enter Try.func74,Try.ntmps74
  go_wp2
  go_ret
  exact ⟨retI64 HE.out.symm,rfl⟩
set_option maxRecDepth 100000 in
set_option maxHeartbeats 1000000 in
theorem l2End_any (ac ar:Option Addr) (cc cr:Nat) (t:T) (hb:t.rows.length≤8∧0≤t.foot∧t.foot≤t.rows.length) (r:Nat) (w:World) :
  Calls Try.prog 75 #[.agg #[.slice ac t.cols.length cc,.int .i64 t.head,.int .i64 t.foot,.slice ar t.rows.length cr,.int .i64 t.gap],.int .i64 (r:Int)] w fun e w'=>e=.returned (.int .i64 (endOf t r))∧Below w.heap.size w w':=by
 obtain ⟨h1,h2,h3⟩:=hb
 by_cases c1:(r:Int) < t.head
 ·have HE:Hid (endOf t r=t.head):=Hid.intro (by unfold endOf;rw [if_pos c1])
  go_enter Try.func75,Try.ntmps75
  go_wp2
  go_ret
  exact ⟨retI64 HE.out.symm,by repeat (first | exact Below.refl _ _ | apply k_alloc)⟩
 ·by_cases c2:(t.rows.length:Int) - t.foot≤r
  ·have HE:Hid (endOf t r=t.rows.length):=Hid.intro (by unfold endOf;rw [if_neg c1,if_pos c2])
   go_enter Try.func75,Try.ntmps75
   go_wp2
   go_ret
   exact ⟨retI64 HE.out.symm,by repeat (first | exact Below.refl _ _ | apply k_alloc)⟩
  ·have HE:Hid (endOf t r=t.rows.length - t.foot):=Hid.intro (by unfold endOf;rw [if_neg c1,if_neg c2])
   go_enter Try.func75,Try.ntmps75
   go_wp2
   go_ret
   exact ⟨retI64 HE.out.symm,by repeat (first | exact Below.refl _ _ | apply k_alloc)⟩
/-- a cell's five cells -/
def gcVs (x:GC):List Value:=[.int .i64 x.row,.int .i64 x.col,.int .i64 x.rows,.int .i64 x.cols,.int .i64 x.ins]
def OwnG (w:World) (base:Nat) (v:Value) (gs:List GC):Prop:=w.ownsRow base 35 5 v gs.length (gs.flatMap gcVs)
theorem OwnG.at {w:World} {base:Nat} {v:Value} {gs:List GC} (h:OwnG w base v gs) (hs:∀ x ∈ gs,GOk x):GsAt w base v gs:=by
 rcases h.2 with ⟨rfl,hn⟩ | ⟨g,cap,cur,rfl,hg,hc,h1,h2,_⟩
 ·exact ⟨none,0,by rw [hn],by omega,by unfold maxLen;omega,fun i hi=>by omega⟩
 ·refine ⟨_,cap,rfl,h1,h2,fun i hi=>⟨g,0,rfl,(Array.getElem?_eq_some_iff.1 hc).1,hg,?_,?_⟩⟩
  ·have hx:∀ j,j < 5→w.cell? ⟨g,i * 5+j,none⟩=(gcVs gs[i])[j]?:=fun j hj=>by
    have e:=flat_get gcVs 5 (fun _=>rfl) gs i hi j hj
    rw [row_cell h (u:=(gcVs gs[i])[j]'(by show j < 5;exact hj)) (by rw [e];simp)]
    simp
   rw [getD_get dG hi,Nat.zero_add]
   exact ⟨hx 0 (by omega),hx 1 (by omega),hx 2 (by omega),hx 3 (by omega),hx 4 (by omega)⟩
  ·rw [getD_get dG hi]
   exact hs _ (List.getElem_mem hi)
theorem Stands.gok {n:Nat} {a:GC} (hn:n≤8) (h:Stands n a):GOk a:=by
 unfold Stands at h
 unfold GOk I64
 omega
theorem Stands.sm {n:Nat} {a:GC} (hn:n≤8) (h:Stands n a):Sm a:=by
 unfold Stands at h
 unfold Sm
 omega
theorem infoGC:(Try.prog.info? 35).map (fun i=>(i.zero,i.size,i.bytes))=some (some (Value.agg #[.int .i64 0,.int .i64 0,.int .i64 0,.int .i64 0,.int .i64 0]),5,40):=by kernel_rfl
end Go.Proofs.Ytggmjiddadjilac
namespace Go.Proofs.Ytggmjiddadjilac
open Go.RowKit

/-- the grid of a drawn table -/
def gOf (t:T):G:=if tblB t=true then ⟨t.rows.length,colsOf (max 1 (t.cols.length:Int)) (gridOf t),gridOf t⟩ else ⟨0,0,[]⟩
theorem low_of {t:T} (h:tblB t=true) (hD:Drawn t):Low t:=by
 have hb:=tblB_bounds h
 have h2:=h
 simp only [tblB,partsB,inB,Bool.and_eq_true,decide_eq_true_eq,List.all_eq_true,rowB,cB,cellOkB] at h2
 refine ⟨hb.1.2,fun r hr x hx=>?_,hD.few,⟨hb.2.1.1,hb.2.1.2⟩,⟨hb.2.2.1,by omega⟩⟩
 have h3:=(h2.2.2.2.2 r hr).2 x hx
 have h4:=hD.cells r hr x hx
 exact ⟨by omega,by have:=h4.2;omega,by have:=h4.2;omega⟩
end Go.Proofs.Ytggmjiddadjilac
namespace Go.Proofs.Ytggmjiddadjilac

theorem getD_snoc_lt {α:Type} {l:List α} {x d:α} {k:Nat} (h:k < l.length):(l ++ [x]).getD k d=l.getD k d:=by
 simp [List.getD,List.getElem?_append_left h]
theorem getD_snoc_eq {α:Type} {l:List α} {x d:α}:(l ++ [x]).getD l.length d=x:=by simp [List.getD]
theorem take_snoc_le {α:Type} {l:List α} {x:α} {k:Nat} (h:k≤l.length):(l ++ [x]).take k=l.take k:=by
 rw [List.take_append_of_le_length h]
theorem atCol_place (gs:List GC) (r i:Nat) (e:Int) (x:C) (c:Int):atCol (place gs r i e x) c=atCol (bare r i e x) c:=by simp only [place,atCol]
theorem col_place (gs:List GC) (r i:Nat) (e:Int) (x:C):(place gs r i e x).col=(ffree gs (bare r i e x):Int):=by simp only [place,atCol]
/-- of a cell of the grid: which one of the table it is; it stands as far ahead as may be; behind the one ahead of it -/
structure Laid (t:T) (gs:List GC) (k:Nat):Prop where
 ex:∃ r j:Nat,r < t.rows.length∧j < (t.rows.getD r dR).cells.length∧gs.getD k dG=place (gs.take k) r j (endOf t r) ((t.rows.getD r dR).cells.getD j dC)
 free:freeG (gs.take k) (gs.getD k dG)=true
 first:∀ c:Nat,(c:Int) < (gs.getD k dG).col→freeG (gs.take k) (atCol (gs.getD k dG) c)=false
 after:0 < k→(gs.getD (k - 1) dG).row < (gs.getD k dG).row∨(gs.getD (k - 1) dG).row=(gs.getD k dG).row∧(gs.getD (k - 1) dG).ins+1=(gs.getD k dG).ins
theorem Laid.snoc {t:T} {gs:List GC} {k:Nat} (x:GC) (hk:k < gs.length) (h:Laid t gs k):Laid t (gs ++ [x]) k:=by
 have e1:(gs ++ [x]).getD k dG=gs.getD k dG:=getD_snoc_lt hk
 have e2:(gs ++ [x]).take k=gs.take k:=take_snoc_le (by omega)
 have e3:(gs ++ [x]).getD (k - 1) dG=gs.getD (k - 1) dG:=getD_snoc_lt (by omega)
 refine ⟨?_,?_,?_,?_⟩
 ·rw [e1,e2];exact h.ex
 ·rw [e1,e2];exact h.free
 ·rw [e1,e2];exact h.first
 ·rw [e1,e3];exact h.after
structure LaidTo (t:T) (gs:List GC) (r i:Nat):Prop where
 part:Part t gs r i
 laid:∀ k,k < gs.length→Laid t gs k
 last:0 < gs.length→(gs.getD (gs.length - 1) dG).row < r∨(gs.getD (gs.length - 1) dG).row=r∧(gs.getD (gs.length - 1) dG).ins+1=i
theorem LaidTo.next {t:T} {gs:List GC} {r i:Nat} (h:LaidTo t gs r i) (hl:Low t) (hr:r < t.rows.length) (hi:i < (t.rows.getD r dR).cells.length) :
  LaidTo t (gs ++ [place gs r i (endOf t r) ((t.rows.getD r dR).cells.getD i dC)]) r (i+1):=by
 obtain ⟨⟨h1,h2,h3,h4⟩,hp⟩:=h.part.next hl hr hi
 refine ⟨hp,?_,?_⟩
 ·intro k hk
  rw [List.length_append,List.length_singleton] at hk
  by_cases hk2:k < gs.length
  ·exact (h.laid k hk2).snoc _ hk2
  ·obtain rfl:k=gs.length:=by omega
   have e2:∀ x:GC,(gs ++ [x]).take gs.length=gs:=fun x=>by rw [take_snoc_le (Nat.le_refl _),List.take_length]
   refine ⟨?_,?_,?_,?_⟩
   ·rw [getD_snoc_eq,e2];exact ⟨r,i,hr,hi,rfl⟩
   ·rw [getD_snoc_eq,e2];exact h2
   ·rw [getD_snoc_eq,e2]
    intro c hc
    rw [col_place] at hc
    rw [atCol_place]
    exact h3 c (Int.ofNat_lt.1 hc)
   ·intro h0
    rw [getD_snoc_eq,getD_snoc_lt (by omega)]
    exact h.last h0
 ·intro _
  rw [List.length_append,List.length_singleton,Nat.add_sub_cancel,getD_snoc_eq]
  refine .inr ⟨rfl,?_⟩
  show (i:Int)+1=((i+1:Nat):Int)
  omega
theorem LaidTo.zero (t:T):LaidTo t [] 0 0:=⟨Part.zero t,fun _ hk=>absurd hk (Nat.not_lt_zero _),fun h=>absurd h (Nat.lt_irrefl _)⟩
theorem LaidTo.rowEnd {t:T} {gs:List GC} {r:Nat} (h:LaidTo t gs r (t.rows.getD r dR).cells.length):LaidTo t gs (r+1) 0:=by
 refine ⟨h.part.rowEnd,h.laid,fun h0=>.inl ?_⟩
 rcases h.last h0 with h1 | ⟨h1,_⟩ <;> omega
theorem stands_of {t:T} (hl:Low t) {a:GC} (ha:a ∈ gridOf t):Stands t.rows.length a:=((part_grid hl _ (Nat.le_refl _)).stands a ha).1
theorem colsOf_cons (m:Int) (a:GC) (gs:List GC):colsOf m (a :: gs)=colsOf (max m (a.col+a.cols)) gs:=rfl
theorem colsOf_ge:∀ (gs:List GC) (m:Int),m≤colsOf m gs
 | [],m=>Int.le_refl _
 | a :: gs,m=>by rw [colsOf_cons];exact Int.le_trans (Int.le_max_left _ _) (colsOf_ge gs _)
theorem colsOf_mem:∀ {gs:List GC} {m:Int} {a:GC},a ∈ gs→a.col+a.cols≤colsOf m gs
 | b :: gs,m,a,h=>by
  rw [colsOf_cons]
  rcases List.mem_cons.1 h with rfl | h
  ·exact Int.le_trans (Int.le_max_right _ _) (colsOf_ge gs _)
  ·exact colsOf_mem h
theorem colsOf_le:∀ {gs:List GC} {m B:Int},m≤B→(∀ a ∈ gs,a.col+a.cols≤B)→colsOf m gs≤B
 | [],m,B,h,_=>h
 | a :: gs,m,B,h,h2=>by
  rw [colsOf_cons]
  exact colsOf_le (Int.max_le.2 ⟨h,h2 a (by simp)⟩) (fun b hb=>h2 b (by simp [hb]))
theorem cols_bounds {t:T} (hl:Low t) (hc:t.cols.length≤8):1≤colsOf (max 1 (t.cols.length:Int)) (gridOf t)∧colsOf (max 1 (t.cols.length:Int)) (gridOf t)≤88∧(t.cols.length:Int)≤colsOf (max 1 (t.cols.length:Int)) (gridOf t):=by
 have h1:=colsOf_ge (gridOf t) (max 1 (t.cols.length:Int))
 have h2:colsOf (max 1 (t.cols.length:Int)) (gridOf t)≤88:=colsOf_le (by omega) (fun a ha=>by have:=stands_of hl ha;unfold Stands at this;omega)
 omega
theorem fits_stands {t:T} (hl:Low t) {a:GC} (ha:a ∈ gridOf t):fitsB t.rows.length (colsOf (max 1 (t.cols.length:Int)) (gridOf t)) a=true:=by
 have h1:=stands_of hl ha
 have h2:=colsOf_mem (m:=max 1 (t.cols.length:Int)) ha
 unfold Stands at h1
 simp only [fitsB,inB,Bool.and_eq_true,decide_eq_true_eq]
 omega
end Go.Proofs.Ytggmjiddadjilac
namespace Go.Proofs.Ytggmjiddadjilac
open Go.RowKit

/-- the table, its two slices at hand -/
def TA (w:World) (z:Nat) (ac ar:Option Addr) (cc cr:Nat) (t:T):Prop:=ColsAt w z (.slice ac t.cols.length cc) t.cols∧RowsAt w z (.slice ar t.rows.length cr) t.rows
theorem TA.kept {w w':World} {z:Nat} {ac ar:Option Addr} {cc cr:Nat} {t:T} (h:TA w z ac ar cc cr t) (hb:Below w.heap.size w w'):TA w' z ac ar cc cr t:=⟨h.1.kept hb,h.2.kept hb⟩
/-- what stays all along -/
def St (w:World) (tb:Nat) (ac ar:Option Addr) (cc cr:Nat) (t:T) (W:World):Prop:=Below w.heap.size w W∧TA W w.heap.size ac ar cc cr t∧W.heap[tb]?=some (.cells #[.slice ac t.cols.length cc,.int .i64 t.head,.int .i64 t.foot,.slice ar t.rows.length cr,.int .i64 t.gap] 65)
theorem St.kept {w W W':World} {tb:Nat} {ac ar:Option Addr} {cc cr:Nat} {t:T} (h:St w tb ac ar cc cr t W) (hb:Below W.heap.size W W'):St w tb ac ar cc cr t W' :=
 ⟨h.1.trans (hb.mono h.1.size),h.2.1.kept hb,(hb.block tb (Array.getElem?_eq_some_iff.1 h.2.2).1).trans h.2.2⟩
theorem St.at {w W:World} {tb:Nat} {ac ar:Option Addr} {cc cr:Nat} {t:T} (h:St w tb ac ar cc cr t W):(W.cell? ⟨tb,0,none⟩=some (.slice ac t.cols.length cc)∧W.cell? ⟨tb,1,none⟩=some (.int .i64 t.head)∧W.cell? ⟨tb,2,none⟩=some (.int .i64 t.foot)∧W.cell? ⟨tb,3,none⟩=some (.slice ar t.rows.length cr)∧W.cell? ⟨tb,4,none⟩=some (.int .i64 t.gap)):=(fiveZ h.2.2).1
/-- the grid's cells are numbers -/
theorem gOf_gok {t:T} (hD:Drawn t):∀ x ∈ (gOf t).cells,GOk x:=by
 unfold gOf
 split
 ·rename_i h
  have hl:=low_of h hD
  exact fun x hx=>(stands_of hl hx).gok hl.rows
 ·intro x hx
  cases hx
def SGr (w:World) (tb gb:Nat) (ac ar:Option Addr) (cc cr:Nat) (t:T) (ag:Option Addr) (cg:Nat) (W:World):Prop :=
 St w tb ac ar cc cr t W∧GsAt W w.heap.size (.slice ag (gOf t).cells.length cg) (gOf t).cells∧W.heap[gb]?=some (.cells #[.int .i64 (gOf t).rows,.int .i64 (gOf t).cols,.slice ag (gOf t).cells.length cg] 25)
theorem SGr.kept {w W W':World} {tb gb:Nat} {ac ar ag:Option Addr} {cc cr cg:Nat} {t:T} (h:SGr w tb gb ac ar cc cr t ag cg W) (hb:Below W.heap.size W W'):SGr w tb gb ac ar cc cr t ag cg W' :=
 ⟨h.1.kept hb,h.2.1.kept hb,(hb.block gb (Array.getElem?_eq_some_iff.1 h.2.2).1).trans h.2.2⟩
theorem SGr.at {w W:World} {tb gb:Nat} {ac ar ag:Option Addr} {cc cr cg:Nat} {t:T} (h:SGr w tb gb ac ar cc cr t ag cg W):W.cell? ⟨gb,0,none⟩=some (.int .i64 (gOf t).rows)∧W.cell? ⟨gb,1,none⟩=some (.int .i64 (gOf t).cols)∧W.cell? ⟨gb,2,none⟩=some (.slice ag (gOf t).cells.length cg) :=
 ⟨cellB h.2.2,cellB h.2.2,cellB h.2.2⟩
theorem own_slice {w:World} {base:Nat} {v:Value} {gs:List GC} (h:OwnG w base v gs):∃ a cap,v=.slice a gs.length cap:=by
 rcases h.2 with ⟨rfl,hn⟩ | ⟨g,cap,cur,rfl,_⟩
 ·exact ⟨none,0,by rw [hn]⟩
 ·exact ⟨_,cap,rfl⟩
theorem gOf_ok {t:T} (h:tblB t=true):gOf t=⟨t.rows.length,colsOf (max 1 (t.cols.length:Int)) (gridOf t),gridOf t⟩:=by unfold gOf;rw [if_pos h]
theorem gOf_no {t:T} (h:tblB t=false):gOf t=⟨0,0,[]⟩:=by unfold gOf;rw [if_neg (by rw [h];simp)]
/-- and a cell in its box -/
def SCe (w:World) (tb gb cb:Nat) (ac ar:Option Addr) (cc cr:Nat) (t:T) (ag:Option Addr) (cg:Nat) (x:GC) (W:World):Prop :=
 SGr w tb gb ac ar cc cr t ag cg W∧W.heap[cb]?=some (.cells #[.int .i64 x.row,.int .i64 x.col,.int .i64 x.rows,.int .i64 x.cols,.int .i64 x.ins] 35)
theorem SCe.kept {w W W':World} {tb gb cb:Nat} {ac ar ag:Option Addr} {cc cr cg:Nat} {t:T} {x:GC} (h:SCe w tb gb cb ac ar cc cr t ag cg x W) (hb:Below W.heap.size W W'):SCe w tb gb cb ac ar cc cr t ag cg x W' :=
 ⟨h.1.kept hb,(hb.block cb (Array.getElem?_eq_some_iff.1 h.2).1).trans h.2⟩
theorem SCe.at {w W:World} {tb gb cb:Nat} {ac ar ag:Option Addr} {cc cr cg:Nat} {t:T} {x:GC} (h:SCe w tb gb cb ac ar cc cr t ag cg x W):W.cell? ⟨cb,0,none⟩=some (.int .i64 x.row)∧W.cell? ⟨cb,1,none⟩=some (.int .i64 x.col)∧W.cell? ⟨cb,2,none⟩=some (.int .i64 x.rows)∧W.cell? ⟨cb,3,none⟩=some (.int .i64 x.cols)∧W.cell? ⟨cb,4,none⟩=some (.int .i64 x.ins) :=
 ⟨cellB h.2,cellB h.2,cellB h.2,cellB h.2,cellB h.2⟩
/-- small numbers -/
def Small (x:GC):Prop:=(0≤x.row∧x.row≤8)∧(0≤x.col∧x.col≤84)∧(1≤x.rows∧x.rows≤3)∧(1≤x.cols∧x.cols≤4)∧0≤x.ins∧x.ins≤4
theorem Stands.small {n:Nat} {a:GC} (hn:n≤8) (h:Stands n a):Small a:=by
 unfold Stands at h
 unfold Small
 omega
end Go.Proofs.Ytggmjiddadjilac
