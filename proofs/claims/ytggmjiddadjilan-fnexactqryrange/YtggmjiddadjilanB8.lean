/-
  PROVED HERE: small facts on grids: whether a cell fits, whether cells meet, whether a grid is ok; cells meet just if they have a slot in common. Also: facts on the least part of a grid that has a part and of each cell all or nothing, as lists. Also: what the program's boundsOk and cellFits answer; nothing that was in memory is turned. Also: what the program's allFree and take do with a cell of a grid, on the map of slots.
-/
import Derived.Test.YtggmjiddadjilanB6
import Derived.Test.YtggmjiddadjilanB5
namespace Go.Proofs.Ytggmjiddadjilan
open Go.RowKit

def boundsB (R C:Int) (n:Nat):Bool:=inB R 1 8 && (inB C 1 94 && decide (n≤40))
def fitsB (R C:Int) (x:GC):Bool:=inB x.row 0 (R - 1) && (inB x.rows 1 (R - x.row) && (inB x.col 0 (C - 1) && (inB x.cols 1 (C - x.col) && inB x.ins 0 4)))
def meetsB (a b:GC):Bool:=decide (a.row < b.row+b.rows) && (decide (b.row < a.row+a.rows) && (decide (a.col < b.col+b.cols) && decide (b.col < a.col+a.cols)))
def freeG (xs:List GC) (x:GC):Bool:=xs.all fun a=>!meetsB a x
def okTo (R C:Int) (gs:List GC) (k:Nat):Bool:=(List.range k).all fun i=>fitsB R C (gs.getD i dG) && freeG (gs.take i) (gs.getD i dG)
def okB (g:G):Bool:=boundsB g.rows g.cols g.cells.length && okTo g.rows g.cols g.cells g.cells.length
theorem okTo_zero (R C:Int) (gs:List GC):okTo R C gs 0=true:=rfl
theorem okTo_succ {R C:Int} {gs:List GC} {k:Nat} (h:okTo R C gs k=true) (h1:fitsB R C (gs.getD k dG)=true) (h2:freeG (gs.take k) (gs.getD k dG)=true):okTo R C gs (k+1)=true:=by
 unfold okTo at h ⊢
 rw [List.range_succ,List.all_append,h]
 simp only [List.all_cons,h1,h2,List.all_nil,Bool.and_self]
theorem okTo_false {R C:Int} {gs:List GC} {k n:Nat} (hk:k < n) (h:(fitsB R C (gs.getD k dG) && freeG (gs.take k) (gs.getD k dG))=false):okTo R C gs n=false:=by
 cases h2:okTo R C gs n with
 | false=>rfl
 | true=>rw [List.all_eq_true.1 h2 k (List.mem_range.2 hk)] at h;cases h
theorem okB_false1 {g:G} (h:boundsB g.rows g.cols g.cells.length=false):okB g=false:=by simp only [okB,h,Bool.false_and]
theorem okB_false2 {g:G} (h:okTo g.rows g.cols g.cells g.cells.length=false):okB g=false:=by simp only [okB,h,Bool.and_false]
theorem bounds_of {R C:Int} {n:Nat} (h:boundsB R C n=true):1≤R∧R≤8∧1≤C∧C≤94∧n≤40:=by
 simp [boundsB,inB] at h
 omega
theorem bounds_intro {R C:Int} {n:Nat} (h1:inB R 1 8=true) (h2:inB C 1 94=true) (h3:n≤40):boundsB R C n=true:=by simp [boundsB,h1,h2,h3]
/-- a cell that fits, in plain numbers -/
def Fit5 (R C:Int) (x:GC) (r c rs cs:Nat):Prop:=x.row=r∧x.col=c∧x.rows=rs∧x.cols=cs∧1≤rs∧1≤cs∧((r+rs:Nat):Int)≤R∧((c+cs:Nat):Int)≤C
theorem fits_of {R C:Int} {x:GC} (h:fitsB R C x=true):Fit5 R C x x.row.toNat x.col.toNat x.rows.toNat x.cols.toNat:=by
 simp [fitsB,inB] at h
 unfold Fit5
 omega
def slotsG (x:GC):List Sl:=rowsSl x.row.toNat x.col.toNat x.cols.toNat x.rows.toNat
/-- the slots of cells -/
def takenBy (gs:List GC):List (Nat × Nat):=(gs.flatMap slotsG).map (·.1)
theorem takenBy_snoc (gs:List GC) (x:GC):takenBy (gs ++ [x])=takenBy gs ++ (slotsG x).map (·.1):=by simp [takenBy]
theorem mem_rowsSl {r c rs cs:Nat} (hr:r+rs≤1000) (hc:c+cs≤1000) (y:Nat × Nat):y ∈ (rowsSl r c cs rs).map (·.1) ↔ (r≤y.1∧y.1 < r+rs)∧c≤y.2∧y.2 < c+cs:=by
 simp only [rowsSl,rowSl,List.mem_map,List.mem_flatMap,List.mem_range]
 constructor
 ·rintro ⟨z,⟨i,hi,j,hj,rfl⟩,rfl⟩
  rw [toSl_val (by omega)]
  dsimp only
  omega
 ·rintro ⟨⟨h1,h2⟩,h3,h4⟩
  refine ⟨toSl (r+(y.1 - r)) (c+(y.2 - c)),⟨y.1 - r,by omega,y.2 - c,by omega,rfl⟩,?_⟩
  rw [toSl_val (by omega)]
  exact Prod.ext (by dsimp only;omega) (by dsimp only;omega)
theorem mem_slotsG {R C:Int} {x:GC} (h:fitsB R C x=true) (hR:R≤8) (hC:C≤94) (y:Nat × Nat):y ∈ (slotsG x).map (·.1) ↔ (x.row≤y.1∧(y.1:Int) < x.row+x.rows)∧x.col≤y.2∧(y.2:Int) < x.col+x.cols:=by
 obtain ⟨e1,e2,e3,e4,h1,h2,h3,h4⟩:=fits_of h
 unfold slotsG
 rw [mem_rowsSl (by omega) (by omega)]
 omega
/-- cells meet just if they have a slot in common -/
theorem meets_iff {R C:Int} {a x:GC} (ha:fitsB R C a=true) (hx:fitsB R C x=true) (hR:R≤8) (hC:C≤94):meetsB a x=true ↔ ∃ y,y ∈ (slotsG a).map (·.1)∧y ∈ (slotsG x).map (·.1):=by
 obtain ⟨a1,a2,a3,a4,a5,a6,a7,a8⟩:=fits_of ha
 obtain ⟨x1,x2,x3,x4,x5,x6,x7,x8⟩:=fits_of hx
 have e:meetsB a x=true ↔ a.row < x.row+x.rows∧x.row < a.row+a.rows∧a.col < x.col+x.cols∧x.col < a.col+a.cols:=by simp [meetsB]
 rw [e]
 constructor
 ·rintro ⟨h1,h2,h3,h4⟩
  refine ⟨(max a.row.toNat x.row.toNat,max a.col.toNat x.col.toNat),(mem_slotsG ha hR hC _).2 ?_,(mem_slotsG hx hR hC _).2 ?_⟩
  ·dsimp only;omega
  ·dsimp only;omega
 ·rintro ⟨y,h1,h2⟩
  have k1:=(mem_slotsG ha hR hC _).1 h1
  have k2:=(mem_slotsG hx hR hC _).1 h2
  omega
theorem free_eq {R C:Int} {gs:List GC} {x:GC} (hg:∀ a ∈ gs,fitsB R C a=true) (hx:fitsB R C x=true) (hR:R≤8) (hC:C≤94):freeIn (takenBy gs) x.row.toNat x.col.toNat x.rows.toNat x.cols.toNat=freeG gs x:=by
 rw [Bool.eq_iff_iff]
 unfold freeIn freeG
 rw [List.all_eq_true,List.all_eq_true]
 constructor
 ·intro h a ha
  cases hm:meetsB a x with
  | false=>rfl
  | true =>
   obtain ⟨y,h1,h2⟩:=(meets_iff (hg a ha) hx hR hC).1 hm
   obtain ⟨z,hz,rfl⟩:=List.mem_map.1 h2
   have:=of_decide_eq_true (h z hz)
   refine absurd ?_ this
   obtain ⟨u,hu,e⟩:=List.mem_map.1 h1
   exact List.mem_map.2 ⟨u,List.mem_flatMap.2 ⟨a,ha,hu⟩,e⟩
 ·intro h z hz
  refine decide_eq_true (fun hm=>?_)
  obtain ⟨u,hu,e⟩:=List.mem_map.1 hm
  obtain ⟨a,ha,hua⟩:=List.mem_flatMap.1 hu
  have:=h a ha
  rw [(meets_iff (hg a ha) hx hR hC).2 ⟨z.1,List.mem_map.2 ⟨u,hua,e⟩,List.mem_map.2 ⟨z,hz,rfl⟩⟩] at this
  cases this
theorem okTo_fits {R C:Int} {gs:List GC} {k:Nat} (hk:k≤gs.length) (h:okTo R C gs k=true):∀ a ∈ gs.take k,fitsB R C a=true:=by
 intro a ha
 obtain ⟨i,hi,rfl⟩:=List.mem_iff_getElem.1 ha
 rw [List.length_take] at hi
 have:=List.all_eq_true.1 h i (List.mem_range.2 (by omega))
 rw [Bool.and_eq_true] at this
 have e:gs.getD i dG=(gs.take k)[i]:=by simp [List.getD,show i < gs.length by omega]
 rw [← e]
 exact this.1
theorem rowSl_len (r c a:Nat):(rowSl r c a).length=a:=by simp [rowSl]
theorem rowsSl_len (r c cs d:Nat):(rowsSl r c cs d).length=d * cs:=by
 induction d with
 | zero=>simp [rowsSl]
 | succ d ih=>rw [rowsSl_succ,List.length_append,ih,rowSl_len,Nat.succ_mul]
theorem slotsG_len {R C:Int} {x:GC} (h:fitsB R C x=true) (hR:R≤8) (hC:C≤94):(slotsG x).length≤752:=by
 obtain ⟨e1,e2,e3,e4,h1,h2,h3,h4⟩:=fits_of h
 unfold slotsG
 rw [rowsSl_len]
 have a1:x.rows.toNat≤8:=by omega
 have a2:x.cols.toNat≤94:=by omega
 exact Nat.mul_le_mul a1 a2
theorem takenBy_len {R C:Int} (hR:R≤8) (hC:C≤94):∀ (gs:List GC),(∀ a ∈ gs,fitsB R C a=true)→(takenBy gs).length≤gs.length * 752
 | [],_=>by simp [takenBy]
 | a :: t,h=>by
  have h1:=slotsG_len (h a (by simp)) hR hC
  have h2:=takenBy_len hR hC t (fun b hb=>h b (by simp [hb]))
  simp only [takenBy,List.length_map,List.flatMap_cons,List.length_append,List.length_cons] at h2 ⊢
  omega
end Go.Proofs.Ytggmjiddadjilan
namespace Go.Proofs.Ytggmjiddadjilan
open Go.RowKit

def inG (a b:GC):Prop:=b.row≤a.row∧a.row+a.rows≤b.row+b.rows∧b.col≤a.col∧a.col+a.cols≤b.col+b.cols
instance (a b:GC):Decidable (inG a b):=by unfold inG;infer_instance
/-- the least part that has two -/
def spanG (a b:GC):GC:=⟨min a.row b.row,min a.col b.col,max (a.row+a.rows) (b.row+b.rows) - min a.row b.row,max (a.col+a.cols) (b.col+b.cols) - min a.col b.col,0⟩
def mtG (a b:GC):Prop:=(a.row < b.row+b.rows∧b.row < a.row+a.rows)∧a.col < b.col+b.cols∧b.col < a.col+a.cols
theorem meets_mt {a b:GC}:meetsB a b=true ↔ mtG a b:=by
 simp only [meetsB,Bool.and_eq_true,decide_eq_true_eq,mtG]
 exact ⟨fun ⟨h1,h2,h3,h4⟩=>⟨⟨h1,h2⟩,h3,h4⟩,fun ⟨⟨h1,h2⟩,h3,h4⟩=>⟨h1,h2,h3,h4⟩⟩
theorem mt_sym {a b:GC} (h:mtG a b):mtG b a:=by unfold mtG at *;omega
/-- a part that lies in a grid, and is not empty -/
def FitP (R C:Int) (x:GC):Prop:=(0≤x.row∧1≤x.rows∧x.row+x.rows≤R)∧0≤x.col∧1≤x.cols∧x.col+x.cols≤C
theorem fitP_of {R C:Int} {x:GC} (h:fitsB R C x=true):FitP R C x:=by
 simp [fitsB,inB] at h
 unfold FitP
 omega
theorem in_refl (a:GC):inG a a:=by unfold inG;omega
theorem in_trans {a b c:GC} (h:inG a b) (k:inG b c):inG a c:=by unfold inG at *;omega
theorem in_span1 (a b:GC):inG a (spanG a b):=by unfold inG spanG;simp only;omega
theorem in_span2 (a b:GC):inG b (spanG a b):=by unfold inG spanG;simp only;omega
theorem span_in {a b y:GC} (h:inG a y) (k:inG b y):inG (spanG a b) y:=by unfold inG spanG at *;simp only;omega
theorem mt_in {a b c:GC} (h:inG a b) (k:mtG a c):mtG b c:=by unfold inG mtG at *;omega
theorem in_eq {a b:GC} (h:inG a b) (k:inG b a) (ha:a.ins=0) (hb:b.ins=0):a=b:=by
 obtain ⟨a0,a1,a2,a3,a4⟩:=a
 obtain ⟨b0,b1,b2,b3,b4⟩:=b
 unfold inG at *
 simp only at *
 congr <;> omega
theorem span_fit {R C:Int} {a b:GC} (h:FitP R C a) (k:FitP R C b):FitP R C (spanG a b):=by unfold FitP spanG at *;simp only;omega
/-- of each cell all or nothing -/
def Closed2 (gs:List GC) (y:GC):Prop:=∀ c ∈ gs,mtG y c→inG c y
/-- one step towards the least closed part -/
structure Grow (gs:List GC) (x x':GC):Prop where
 ge:inG x x'
 has:∀ c ∈ gs,mtG x c→inG c x'
 le:∀ y,Closed2 gs y→inG x y→inG x' y
 ins:x'.ins=0
def cntG (gs:List GC) (x:GC):Nat:=gs.countP fun c=>decide (inG c x)
theorem cntG_le (gs:List GC) (x:GC):cntG gs x≤gs.length:=List.countP_le_length
theorem cnt_mono {gs:List GC} {x y:GC} (h:inG x y):cntG gs x≤cntG gs y :=
 List.countP_mono_left fun _ _ hc=>decide_eq_true (in_trans (of_decide_eq_true hc) h)
theorem cnt_lt {x y c:GC} (h:inG x y) (h1:¬ inG c x) (h2:inG c y):∀ {gs:List GC},c ∈ gs→cntG gs x < cntG gs y
 | [],hc=>by cases hc
 | d :: gs,hc=>by
  unfold cntG
  rw [List.countP_cons,List.countP_cons]
  rcases List.mem_cons.1 hc with rfl | hm
  ·have:=cnt_mono (gs:=gs) h
   unfold cntG at this
   rw [if_neg (by simpa using h1),if_pos (by simpa using h2)]
   omega
  ·have:=cnt_lt h h1 h2 hm
   unfold cntG at this
   have e:(if decide (inG d x)=true then 1 else 0)≤(if decide (inG d y)=true then 1 else 0):=by
    by_cases hd:inG d x
    ·rw [if_pos (by simpa using hd),if_pos (by simpa using in_trans hd h)]
     exact Nat.le_refl _
    ·rw [if_neg (by simpa using hd)]
     exact Nat.zero_le _
   omega
theorem Grow.fix {gs:List GC} {x x':GC} (g:Grow gs x x') (h:Closed2 gs x) (hx:x.ins=0):x'=x:=in_eq (g.le x h (in_refl _)) g.ge g.ins hx
theorem Grow.closed {gs:List GC} {x:GC} (g:Grow gs x x):Closed2 gs x:=g.has
theorem Grow.more {gs:List GC} {x x':GC} (g:Grow gs x x') (h:¬ Closed2 gs x):cntG gs x < cntG gs x':=by
 simp only [Closed2,Classical.not_forall] at h
 obtain ⟨c,hc,hm,hn⟩:=h
 exact cnt_lt g.ge hn (g.has c hc hm) hc
/-- the least closed part that has a part -/
structure Least (gs:List GC) (x y:GC):Prop where
 ge:inG x y
 closed:Closed2 gs y
 le:∀ z,Closed2 gs z→inG x z→inG y z
 ins:y.ins=0
theorem Least.one {gs:List GC} {x y z:GC} (h:Least gs x y) (k:Least gs x z):y=z:=in_eq (h.le z k.closed k.ge) (k.le y h.closed h.ge) h.ins k.ins
theorem Least.of {gs:List GC} {x y:GC} (h:inG x y) (l:∀ z,Closed2 gs z→inG x z→inG y z) (c:Closed2 gs y) (i:y.ins=0):Least gs x y:=⟨h,c,l,i⟩

def stepM (x c:GC):GC:=if meetsB x c then spanG x c else x
def roundM (gs:List GC) (x:GC):GC:=gs.foldl stepM x
def stepP (x gr c:GC):GC:=if meetsB c x then spanG gr c else gr
def roundP (gs:List GC) (x:GC):GC:=gs.foldl (stepP x) x
theorem stepM_ge (x c:GC):inG x (stepM x c):=by
 unfold stepM
 split
 ·exact in_span1 _ _
 ·exact in_refl _
theorem stepM_ins {x c:GC} (h:x.ins=0):(stepM x c).ins=0:=by
 unfold stepM
 split
 ·rfl
 ·exact h
theorem foldM_grow:∀ (l gs:List GC) (x:GC),(∀ c ∈ l,c ∈ gs)→x.ins=0→inG x (l.foldl stepM x)∧(∀ c ∈ l,mtG x c→inG c (l.foldl stepM x))∧(∀ y,Closed2 gs y→inG x y→inG (l.foldl stepM x) y)∧(l.foldl stepM x).ins=0
 | [],_,x,_,hx=>⟨in_refl _,fun _ hc=>(by cases hc),fun _ _ h=>h,hx⟩
 | d :: l,gs,x,hl,hx=>by
  obtain ⟨i1,i2,i3,i4⟩:=foldM_grow l gs (stepM x d) (fun c hc=>hl c (List.mem_cons_of_mem _ hc)) (stepM_ins hx)
  rw [List.foldl_cons]
  refine ⟨in_trans (stepM_ge x d) i1,fun c hc hm=>?_,fun y hy hxy=>i3 y hy ?_,i4⟩
  ·rcases List.mem_cons.1 hc with rfl | hc'
   ·refine in_trans ?_ i1
    unfold stepM
    rw [if_pos (meets_mt.2 hm)]
    exact in_span2 _ _
   ·exact i2 c hc' (mt_in (stepM_ge x d) hm)
  ·unfold stepM
   split
   ·rename_i hm
    exact span_in hxy (hy d (hl d (List.mem_cons_self ..)) (mt_in hxy (meets_mt.1 hm)))
   ·exact hxy
theorem roundM_grow {gs:List GC} {x:GC} (hx:x.ins=0):Grow gs x (roundM gs x):=by
 obtain ⟨h1,h2,h3,h4⟩:=foldM_grow gs gs x (fun _ h=>h) hx
 exact ⟨h1,h2,h3,h4⟩
theorem foldP_grow:∀ (l gs:List GC) (x gr:GC),(∀ c ∈ l,c ∈ gs)→gr.ins=0→inG gr (l.foldl (stepP x) gr)∧(∀ c ∈ l,mtG x c→inG c (l.foldl (stepP x) gr))∧(∀ y,Closed2 gs y→inG x y→inG gr y→inG (l.foldl (stepP x) gr) y)∧(l.foldl (stepP x) gr).ins=0
 | [],_,x,gr,_,hx=>⟨in_refl _,fun _ hc=>(by cases hc),fun _ _ _ h=>h,hx⟩
 | d :: l,gs,x,gr,hl,hx=>by
  have hge:inG gr (stepP x gr d):=by
   unfold stepP
   split
   ·exact in_span1 _ _
   ·exact in_refl _
  have hin:(stepP x gr d).ins=0:=by
   unfold stepP
   split
   ·rfl
   ·exact hx
  obtain ⟨i1,i2,i3,i4⟩:=foldP_grow l gs x (stepP x gr d) (fun c hc=>hl c (List.mem_cons_of_mem _ hc)) hin
  rw [List.foldl_cons]
  refine ⟨in_trans hge i1,fun c hc hm=>?_,fun y hy hxy hgy=>i3 y hy hxy ?_,i4⟩
  ·rcases List.mem_cons.1 hc with rfl | hc'
   ·refine in_trans ?_ i1
    unfold stepP
    rw [if_pos (meets_mt.2 (mt_sym hm))]
    exact in_span2 _ _
   ·exact i2 c hc' hm
  ·unfold stepP
   split
   ·rename_i hm
    exact span_in hgy (hy d (hl d (List.mem_cons_self ..)) (mt_in hxy (mt_sym (meets_mt.1 hm))))
   ·exact hgy
theorem roundP_grow {gs:List GC} {x:GC} (hx:x.ins=0):Grow gs x (roundP gs x):=by
 obtain ⟨h1,h2,h3,h4⟩:=foldP_grow gs gs x x (fun _ h=>h) hx
 exact ⟨h1,h2,fun y hy hxy=>h3 y hy hxy hxy,h4⟩
/-- so many rounds of the model -/
def itM (gs:List GC):Nat→GC→GC
 | 0,x=>x
 | n+1,x=>roundM gs (itM gs n x)
theorem itM_facts {gs:List GC} {x:GC} (hx:x.ins=0):∀ n,inG x (itM gs n x)∧(∀ y,Closed2 gs y→inG x y→inG (itM gs n x) y)∧(itM gs n x).ins=0∧(Closed2 gs (itM gs n x)∨n≤cntG gs (itM gs n x))
 | 0=>⟨in_refl _,fun _ _ h=>h,hx,.inr (Nat.zero_le _)⟩
 | n+1=>by
  obtain ⟨h1,h2,h3,h4⟩:=itM_facts hx n
  have g:=roundM_grow (gs:=gs) h3
  refine ⟨in_trans h1 g.ge,fun y hy hxy=>g.le y hy (h2 y hy hxy),g.ins,?_⟩
  by_cases hc:Closed2 gs (itM gs n x)
  ·left
   show Closed2 gs (roundM gs (itM gs n x))
   rw [g.fix hc h3]
   exact hc
  ·right
   rcases h4 with h4 | h4
   ·exact absurd h4 hc
   ·have:=g.more hc
    show n+1≤cntG gs (roundM gs (itM gs n x))
    omega
theorem closed_all {gs:List GC} {y:GC} (h:gs.length≤cntG gs y):Closed2 gs y:=by
 have e:cntG gs y=gs.length:=Nat.le_antisymm (cntG_le gs y) h
 intro c hc _
 exact of_decide_eq_true (List.countP_eq_length.1 e c hc)
def rangeG (gs:List GC) (x:GC):GC:=itM gs gs.length x
theorem range_least {gs:List GC} {x:GC} (hx:x.ins=0):Least gs x (rangeG gs x):=by
 obtain ⟨h1,h2,h3,h4⟩:=itM_facts (gs:=gs) hx gs.length
 refine ⟨h1,?_,h2,h3⟩
 rcases h4 with h | h
 ·exact h
 ·exact closed_all h
/-- a part that the program has come to, if no cell brings more -/
theorem range_is {gs:List GC} {x y:GC} (hx:x.ins=0) (h:inG x y) (l:∀ z,Closed2 gs z→inG x z→inG y z) (i:y.ins=0) (f:roundP gs y=y):y=rangeG gs x:=by
 have g:=roundP_grow (gs:=gs) i
 rw [f] at g
 exact Least.one ⟨h,g.closed,l,i⟩ (range_least hx)
theorem foldM_fit {R C:Int}:∀ (l:List GC) (x:GC),(∀ c ∈ l,FitP R C c)→FitP R C x→FitP R C (l.foldl stepM x)
 | [],_,_,h=>h
 | d :: l,x,hl,h=>by
  rw [List.foldl_cons]
  refine foldM_fit l _ (fun c hc=>hl c (List.mem_cons_of_mem _ hc)) ?_
  unfold stepM
  split
  ·exact span_fit h (hl d (List.mem_cons_self ..))
  ·exact h
theorem foldP_fit {R C:Int} (y:GC):∀ (l:List GC) (x:GC),(∀ c ∈ l,FitP R C c)→FitP R C x→FitP R C (l.foldl (stepP y) x)
 | [],_,_,h=>h
 | d :: l,x,hl,h=>by
  rw [List.foldl_cons]
  refine foldP_fit y l _ (fun c hc=>hl c (List.mem_cons_of_mem _ hc)) ?_
  unfold stepP
  split
  ·exact span_fit h (hl d (List.mem_cons_self ..))
  ·exact h
theorem itM_fit {R C:Int} {gs:List GC} {x:GC} (hl:∀ c ∈ gs,FitP R C c) (h:FitP R C x):∀ n,FitP R C (itM gs n x)
 | 0=>h
 | n+1=>foldM_fit gs _ hl (itM_fit hl h n)
end Go.Proofs.Ytggmjiddadjilan
namespace Go.Proofs.Ytggmjiddadjilan
open Go.RowKit

set_option maxRecDepth 100000 in
set_option maxHeartbeats 1000000 in
theorem boundsOk_any (R C:Int) (ac:Option Addr) (n cc:Nat) (w:World) :
  Calls Try.prog 32 #[.agg #[.int .i64 R,.int .i64 C,.slice ac n cc]] w fun e w'=>e=.returned (.bool (boundsB R C n))∧Below w.heap.size w w':=by
 cases h1:inB R 1 8 with
 | false =>
  have HE:Hid (boundsB R C n=false):=by simp only [boundsB,h1,Bool.false_and];exact trivial
  have K1:=Hid.intro (within_any R 1 8)
  rw [h1] at K1
  go_enter Try.func32,Try.ntmps32
  go_wp2_with fail
  refine (K1.out _).mono ?_
  rintro e w1 ⟨rfl,rfl⟩
  go_wp2
  go_ret
  exact ⟨retB HE.out.symm,k_alloc (Below.refl _ _) _⟩
 | true =>
  cases h2:inB C 1 94 with
  | false =>
   have HE:Hid (boundsB R C n=false):=by simp only [boundsB,h2,Bool.false_and,Bool.and_false];exact trivial
   have K1:=Hid.intro (within_any R 1 8)
   have K2:=Hid.intro (within_any C 1 94)
   rw [h1] at K1
   rw [h2] at K2
   go_enter Try.func32,Try.ntmps32
   go_wp2_with fail
   refine (K1.out _).mono ?_
   rintro e w1 ⟨rfl,rfl⟩
   go_wp2_with fail
   refine (K2.out _).mono ?_
   rintro e w1 ⟨rfl,rfl⟩
   go_wp2
   go_ret
   exact ⟨retB HE.out.symm,k_alloc (Below.refl _ _) _⟩
  | true =>
   have HE:Hid (boundsB R C n=decide ((n:Int)≤40)):=by
    show boundsB R C n=_
    simp only [boundsB,h1,h2,Bool.true_and]
    exact decide_eq_decide.2 (by omega)
   have K1:=Hid.intro (within_any R 1 8)
   have K2:=Hid.intro (within_any C 1 94)
   rw [h1] at K1
   rw [h2] at K2
   go_enter Try.func32,Try.ntmps32
   go_wp2_with fail
   refine (K1.out _).mono ?_
   rintro e w1 ⟨rfl,rfl⟩
   go_wp2_with fail
   refine (K2.out _).mono ?_
   rintro e w1 ⟨rfl,rfl⟩
   go_wp2
   go_ret
   exact ⟨retB HE.out.symm,k_alloc (Below.refl _ _) _⟩

set_option maxRecDepth 100000 in
set_option maxHeartbeats 2000000 in
theorem cellFits_any (R C:Int) (v:Value) (x:GC) (hx:GOk x) (hR:1≤R∧R≤8) (hC:1≤C∧C≤94) (w:World) :
  Calls Try.prog 33 #[.agg #[.int .i64 R,.int .i64 C,v],.agg #[.int .i64 x.row,.int .i64 x.col,.int .i64 x.rows,.int .i64 x.cols,.int .i64 x.ins]] w fun e w'=>e=.returned (.bool (fitsB R C x))∧Below w.heap.size w w':=by
 obtain ⟨b0,b1,b2,b3,b4⟩:=hx
 unfold I64 at b0 b1 b2 b3 b4
 have K1:=Hid.intro (within_any x.row 0 (R - 1))
 have K2:=Hid.intro (within_any x.rows 1 (R - x.row))
 have K3:=Hid.intro (within_any x.col 0 (C - 1))
 have K4:=Hid.intro (within_any x.cols 1 (C - x.col))
 have K5:=Hid.intro (within_any x.ins 0 4)
 have p1:IntKind.i64.wrap (R - 1)=R - 1:=by rw [IntKind.wrap_i64];omega
 have p3:IntKind.i64.wrap (C - 1)=C - 1:=by rw [IntKind.wrap_i64];omega
 cases h1:inB x.row 0 (R - 1) with
 | false =>
  rw [h1] at K1
  have HE:Hid (fitsB R C x=false):=by
   show fitsB R C x=false
   simp only [fitsB,h1,Bool.false_and]
  go_enter Try.func33,Try.ntmps33
  go_wp2_with fail
  refine (K1.out _).mono ?_
  rintro e w1 ⟨rfl,rfl⟩
  go_wp2
  go_ret
  exact ⟨retB HE.out.symm,k_alloc (k_alloc (Below.refl _ _) _) _⟩
 | true =>
  rw [h1] at K1
  have p2:IntKind.i64.wrap (R - x.row)=R - x.row:=by
   have:=of_decide_eq_true h1
   rw [IntKind.wrap_i64];omega
  cases h2:inB x.rows 1 (R - x.row) with
  | false =>
   rw [h2] at K2
   have HE:Hid (fitsB R C x=false):=by
    show fitsB R C x=false
    simp only [fitsB,h2,Bool.false_and,Bool.and_false]
   go_enter Try.func33,Try.ntmps33
   go_wp2_with fail
   refine (K1.out _).mono ?_
   rintro e w1 ⟨rfl,rfl⟩
   go_wp2_with fail
   refine (K2.out _).mono ?_
   rintro e w1 ⟨rfl,rfl⟩
   go_wp2
   go_ret
   exact ⟨retB HE.out.symm,k_alloc (k_alloc (Below.refl _ _) _) _⟩
  | true =>
   rw [h2] at K2
   cases h3:inB x.col 0 (C - 1) with
   | false =>
    rw [h3] at K3
    have HE:Hid (fitsB R C x=false):=by
     show fitsB R C x=false
     simp only [fitsB,h3,Bool.false_and,Bool.and_false]
    go_enter Try.func33,Try.ntmps33
    go_wp2_with fail
    refine (K1.out _).mono ?_
    rintro e w1 ⟨rfl,rfl⟩
    go_wp2_with fail
    refine (K2.out _).mono ?_
    rintro e w1 ⟨rfl,rfl⟩
    go_wp2_with fail
    refine (K3.out _).mono ?_
    rintro e w1 ⟨rfl,rfl⟩
    go_wp2
    go_ret
    exact ⟨retB HE.out.symm,k_alloc (k_alloc (Below.refl _ _) _) _⟩
   | true =>
    rw [h3] at K3
    have p4:IntKind.i64.wrap (C - x.col)=C - x.col:=by
     have:=of_decide_eq_true h3
     rw [IntKind.wrap_i64];omega
    cases h4:inB x.cols 1 (C - x.col) with
    | false =>
     rw [h4] at K4
     have HE:Hid (fitsB R C x=false):=by
      show fitsB R C x=false
      simp only [fitsB,h4,Bool.false_and,Bool.and_false]
     go_enter Try.func33,Try.ntmps33
     go_wp2_with fail
     refine (K1.out _).mono ?_
     rintro e w1 ⟨rfl,rfl⟩
     go_wp2_with fail
     refine (K2.out _).mono ?_
     rintro e w1 ⟨rfl,rfl⟩
     go_wp2_with fail
     refine (K3.out _).mono ?_
     rintro e w1 ⟨rfl,rfl⟩
     go_wp2_with fail
     refine (K4.out _).mono ?_
     rintro e w1 ⟨rfl,rfl⟩
     go_wp2
     go_ret
     exact ⟨retB HE.out.symm,k_alloc (k_alloc (Below.refl _ _) _) _⟩
    | true =>
     rw [h4] at K4
     cases h5:inB x.ins 0 4 with
     | false =>
      rw [h5] at K5
      have HE:Hid (fitsB R C x=false):=by
       show fitsB R C x=false
       simp only [fitsB,h5,Bool.and_false]
      go_enter Try.func33,Try.ntmps33
      go_wp2_with fail
      refine (K1.out _).mono ?_
      rintro e w1 ⟨rfl,rfl⟩
      go_wp2_with fail
      refine (K2.out _).mono ?_
      rintro e w1 ⟨rfl,rfl⟩
      go_wp2_with fail
      refine (K3.out _).mono ?_
      rintro e w1 ⟨rfl,rfl⟩
      go_wp2_with fail
      refine (K4.out _).mono ?_
      rintro e w1 ⟨rfl,rfl⟩
      go_wp2_with fail
      refine (K5.out _).mono ?_
      rintro e w1 ⟨rfl,rfl⟩
      go_wp2
      go_ret
      exact ⟨retB HE.out.symm,k_alloc (k_alloc (Below.refl _ _) _) _⟩
     | true =>
      rw [h5] at K5
      have HE:Hid (fitsB R C x=true):=by
       show fitsB R C x=true
       simp only [fitsB,h1,h2,h3,h4,h5,Bool.and_self]
      go_enter Try.func33,Try.ntmps33
      go_wp2_with fail
      refine (K1.out _).mono ?_
      rintro e w1 ⟨rfl,rfl⟩
      go_wp2_with fail
      refine (K2.out _).mono ?_
      rintro e w1 ⟨rfl,rfl⟩
      go_wp2_with fail
      refine (K3.out _).mono ?_
      rintro e w1 ⟨rfl,rfl⟩
      go_wp2_with fail
      refine (K4.out _).mono ?_
      rintro e w1 ⟨rfl,rfl⟩
      go_wp2_with fail
      refine (K5.out _).mono ?_
      rintro e w1 ⟨rfl,rfl⟩
      go_wp2
      go_ret
      exact ⟨retB HE.out.symm,k_alloc (k_alloc (Below.refl _ _) _) _⟩
end Go.Proofs.Ytggmjiddadjilan
namespace Go.Proofs.Ytggmjiddadjilan
open Go.RowKit

theorem allFreeG {R C:Int} {x:GC} (hf:fitsB R C x=true) (hR:R≤8) (hC:C≤94) (w:World) (B:Nat) (L:List (Nat × Nat)) (hT:TakAt w B L) :
  Calls Try.prog 34 #[.map (some B),.agg #[.int .i64 x.row,.int .i64 x.col,.int .i64 x.rows,.int .i64 x.cols,.int .i64 x.ins]] w fun e w'=>e=.returned (.bool (freeIn L x.row.toNat x.col.toNat x.rows.toNat x.cols.toNat))∧Below w.heap.size w w':=by
 obtain ⟨e1,e2,e3,e4,h1,h2,h3,h4⟩:=fits_of hf
 have h:=allFree_any x.row.toNat x.col.toNat x.rows.toNat x.cols.toNat x.ins (by omega) (by omega) w B L hT
 unfold gcV at h
 rw [← e1,← e2,← e3,← e4] at h
 exact h
theorem takeG {R C:Int} {x:GC} (hf:fitsB R C x=true) (hR:R≤8) (hC:C≤94) (w:World) (B:Nat) (L:List (Nat × Nat)) (hT:TakAt w B L) (hL:L.length≤40 * 752) :
  Calls Try.prog 35 #[.map (some B),.agg #[.int .i64 x.row,.int .i64 x.col,.int .i64 x.rows,.int .i64 x.cols,.int .i64 x.ins]] w fun e w'=>(∃ v,e=.returned v)∧TakAt w' B (L ++ (slotsG x).map (·.1))∧w.grownBy w' (some B):=by
 have hl:=slotsG_len hf hR hC
 obtain ⟨e1,e2,e3,e4,h1,h2,h3,h4⟩:=fits_of hf
 have h:=take_any x.row.toNat x.col.toNat x.rows.toNat x.cols.toNat x.ins (by omega) (by omega) w B L hT (by show _+(slotsG x).length < _;omega)
 unfold gcV at h
 rw [← e1,← e2,← e3,← e4] at h
 exact h
end Go.Proofs.Ytggmjiddadjilan
