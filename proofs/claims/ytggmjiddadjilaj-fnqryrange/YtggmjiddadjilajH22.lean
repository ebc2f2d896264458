/-
  PROVED HERE: facts on the least part of a grid that has a part and of each cell all or nothing, as lists. Also: what the program's boundsOk and cellFits answer; nothing that was in memory is turned. Also: what the program's allFree and take do with a cell of a grid, on the map of slots. Also: what the program's takersOf and GrdOk answer at a grid that lies in memory; nothing that was in memory is turned.
-/
import Derived.Test.YtggmjiddadjilajH16
namespace Go.Proofs.Ytggmjiddadjilaj
open Go.RowKit

def inG (a b:GC):Prop:=b.row≤a.row∧a.row+a.rows≤b.row+b.rows∧b.col≤a.col∧a.col+a.cols≤b.col+b.cols
instance (a b:GC):Decidable (inG a b):=by unfold inG;infer_instance
/-- the least part that has two -/
def spanG (a b:GC):GC:=⟨min a.row b.row,min a.col b.col,max (a.row+a.rows) (b.row+b.rows) - min a.row b.row,max (a.col+a.cols) (b.col+b.cols) - min a.col b.col,0⟩
def mtG (a b:GC):Prop:=(a.row < b.row+b.rows∧b.row < a.row+a.rows)∧a.col < b.col+b.cols∧b.col < a.col+a.cols
theorem meets_mt {a b:GC}:meetsB a b=true ↔ mtG a b:=by
 simp only [meetsB,Bool.and_eq_true,decide_eq_true_eq,mtG]
 exact ⟨fun ⟨h1,h2,h3,h4⟩=>⟨⟨h1,h2⟩,h3,h4⟩,fun ⟨⟨h1,h2⟩,h3,h4⟩=>⟨h1,h2,h3,h4⟩⟩
theorem mt_sym {a b:GC} (h:mtG a b):mtG b a:=by unfold mtG at *;omega
/-- a part that lies in a grid, and is not empty -/
def FitP (R C:Int) (x:GC):Prop:=(0≤x.row∧1≤x.rows∧x.row+x.rows≤R)∧0≤x.col∧1≤x.cols∧x.col+x.cols≤C
theorem fitP_of {R C:Int} {x:GC} (h:fitsB R C x=true):FitP R C x:=by
 simp [fitsB,inB] at h
 unfold FitP
 omega
theorem in_refl (a:GC):inG a a:=by unfold inG;omega
theorem in_trans {a b c:GC} (h:inG a b) (k:inG b c):inG a c:=by unfold inG at *;omega
theorem in_span1 (a b:GC):inG a (spanG a b):=by unfold inG spanG;simp only;omega
theorem in_span2 (a b:GC):inG b (spanG a b):=by unfold inG spanG;simp only;omega
theorem span_in {a b y:GC} (h:inG a y) (k:inG b y):inG (spanG a b) y:=by unfold inG spanG at *;simp only;omega
theorem mt_in {a b c:GC} (h:inG a b) (k:mtG a c):mtG b c:=by unfold inG mtG at *;omega
theorem in_eq {a b:GC} (h:inG a b) (k:inG b a) (ha:a.ins=0) (hb:b.ins=0):a=b:=by
 obtain ⟨a0,a1,a2,a3,a4⟩:=a
 obtain ⟨b0,b1,b2,b3,b4⟩:=b
 unfold inG at *
 simp only at *
 congr <;> omega
theorem span_fit {R C:Int} {a b:GC} (h:FitP R C a) (k:FitP R C b):FitP R C (spanG a b):=by unfold FitP spanG at *;simp only;omega
theorem span_sym (a b:GC):spanG a b=spanG b a:=in_eq (span_in (in_span2 _ _) (in_span1 _ _)) (span_in (in_span2 _ _) (in_span1 _ _)) rfl rfl
theorem in_mt {R C:Int} {a x:GC} (h:inG a x) (ha:FitP R C a):mtG a x:=by unfold inG mtG FitP at *;omega
/-- of each cell all or nothing -/
def Closed2 (gs:List GC) (y:GC):Prop:=∀ c ∈ gs,mtG y c→inG c y
/-- one step towards the least closed part -/
structure Grow (gs:List GC) (x x':GC):Prop where
 ge:inG x x'
 has:∀ c ∈ gs,mtG x c→inG c x'
 le:∀ y,Closed2 gs y→inG x y→inG x' y
 ins:x'.ins=0
def cntG (gs:List GC) (x:GC):Nat:=gs.countP fun c=>decide (inG c x)
theorem cntG_le (gs:List GC) (x:GC):cntG gs x≤gs.length:=List.countP_le_length
theorem cnt_mono {gs:List GC} {x y:GC} (h:inG x y):cntG gs x≤cntG gs y :=
 List.countP_mono_left fun _ _ hc=>decide_eq_true (in_trans (of_decide_eq_true hc) h)
theorem cnt_lt {x y c:GC} (h:inG x y) (h1:¬ inG c x) (h2:inG c y):∀ {gs:List GC},c ∈ gs→cntG gs x < cntG gs y
 | [],hc=>by cases hc
 | d :: gs,hc=>by
  unfold cntG
  rw [List.countP_cons,List.countP_cons]
  rcases List.mem_cons.1 hc with rfl | hm
  ·have:=cnt_mono (gs:=gs) h
   unfold cntG at this
   rw [if_neg (by simpa using h1),if_pos (by simpa using h2)]
   omega
  ·have:=cnt_lt h h1 h2 hm
   unfold cntG at this
   have e:(if decide (inG d x)=true then 1 else 0)≤(if decide (inG d y)=true then 1 else 0):=by
    by_cases hd:inG d x
    ·rw [if_pos (by simpa using hd),if_pos (by simpa using in_trans hd h)]
     exact Nat.le_refl _
    ·rw [if_neg (by simpa using hd)]
     exact Nat.zero_le _
   omega
theorem Grow.fix {gs:List GC} {x x':GC} (g:Grow gs x x') (h:Closed2 gs x) (hx:x.ins=0):x'=x:=in_eq (g.le x h (in_refl _)) g.ge g.ins hx
theorem Grow.closed {gs:List GC} {x:GC} (g:Grow gs x x):Closed2 gs x:=g.has
theorem Grow.more {gs:List GC} {x x':GC} (g:Grow gs x x') (h:¬ Closed2 gs x):cntG gs x < cntG gs x':=by
 simp only [Closed2,Classical.not_forall] at h
 obtain ⟨c,hc,hm,hn⟩:=h
 exact cnt_lt g.ge hn (g.has c hc hm) hc
/-- the least closed part that has a part -/
structure Least (gs:List GC) (x y:GC):Prop where
 ge:inG x y
 closed:Closed2 gs y
 le:∀ z,Closed2 gs z→inG x z→inG y z
 ins:y.ins=0
theorem Least.one {gs:List GC} {x y z:GC} (h:Least gs x y) (k:Least gs x z):y=z:=in_eq (h.le z k.closed k.ge) (k.le y h.closed h.ge) h.ins k.ins
theorem Least.of {gs:List GC} {x y:GC} (h:inG x y) (l:∀ z,Closed2 gs z→inG x z→inG y z) (c:Closed2 gs y) (i:y.ins=0):Least gs x y:=⟨h,c,l,i⟩

def stepM (x c:GC):GC:=if meetsB x c then spanG x c else x
def roundM (gs:List GC) (x:GC):GC:=gs.foldl stepM x
def stepP (x gr c:GC):GC:=if meetsB c x then spanG gr c else gr
def roundP (gs:List GC) (x:GC):GC:=gs.foldl (stepP x) x
theorem stepM_ge (x c:GC):inG x (stepM x c):=by
 unfold stepM
 split
 ·exact in_span1 _ _
 ·exact in_refl _
theorem stepM_ins {x c:GC} (h:x.ins=0):(stepM x c).ins=0:=by
 unfold stepM
 split
 ·rfl
 ·exact h
theorem foldM_grow:∀ (l gs:List GC) (x:GC),(∀ c ∈ l,c ∈ gs)→x.ins=0→inG x (l.foldl stepM x)∧(∀ c ∈ l,mtG x c→inG c (l.foldl stepM x))∧(∀ y,Closed2 gs y→inG x y→inG (l.foldl stepM x) y)∧(l.foldl stepM x).ins=0
 | [],_,x,_,hx=>⟨in_refl _,fun _ hc=>(by cases hc),fun _ _ h=>h,hx⟩
 | d :: l,gs,x,hl,hx=>by
  obtain ⟨i1,i2,i3,i4⟩:=foldM_grow l gs (stepM x d) (fun c hc=>hl c (List.mem_cons_of_mem _ hc)) (stepM_ins hx)
  rw [List.foldl_cons]
  refine ⟨in_trans (stepM_ge x d) i1,fun c hc hm=>?_,fun y hy hxy=>i3 y hy ?_,i4⟩
  ·rcases List.mem_cons.1 hc with rfl | hc'
   ·refine in_trans ?_ i1
    unfold stepM
    rw [if_pos (meets_mt.2 hm)]
    exact in_span2 _ _
   ·exact i2 c hc' (mt_in (stepM_ge x d) hm)
  ·unfold stepM
   split
   ·rename_i hm
    exact span_in hxy (hy d (hl d (List.mem_cons_self ..)) (mt_in hxy (meets_mt.1 hm)))
   ·exact hxy
theorem roundM_grow {gs:List GC} {x:GC} (hx:x.ins=0):Grow gs x (roundM gs x):=by
 obtain ⟨h1,h2,h3,h4⟩:=foldM_grow gs gs x (fun _ h=>h) hx
 exact ⟨h1,h2,h3,h4⟩
theorem foldP_grow:∀ (l gs:List GC) (x gr:GC),(∀ c ∈ l,c ∈ gs)→gr.ins=0→inG gr (l.foldl (stepP x) gr)∧(∀ c ∈ l,mtG x c→inG c (l.foldl (stepP x) gr))∧(∀ y,Closed2 gs y→inG x y→inG gr y→inG (l.foldl (stepP x) gr) y)∧(l.foldl (stepP x) gr).ins=0
 | [],_,x,gr,_,hx=>⟨in_refl _,fun _ hc=>(by cases hc),fun _ _ _ h=>h,hx⟩
 | d :: l,gs,x,gr,hl,hx=>by
  have hge:inG gr (stepP x gr d):=by
   unfold stepP
   split
   ·exact in_span1 _ _
   ·exact in_refl _
  have hin:(stepP x gr d).ins=0:=by
   unfold stepP
   split
   ·rfl
   ·exact hx
  obtain ⟨i1,i2,i3,i4⟩:=foldP_grow l gs x (stepP x gr d) (fun c hc=>hl c (List.mem_cons_of_mem _ hc)) hin
  rw [List.foldl_cons]
  refine ⟨in_trans hge i1,fun c hc hm=>?_,fun y hy hxy hgy=>i3 y hy hxy ?_,i4⟩
  ·rcases List.mem_cons.1 hc with rfl | hc'
   ·refine in_trans ?_ i1
    unfold stepP
    rw [if_pos (meets_mt.2 (mt_sym hm))]
    exact in_span2 _ _
   ·exact i2 c hc' hm
  ·unfold stepP
   split
   ·rename_i hm
    exact span_in hgy (hy d (hl d (List.mem_cons_self ..)) (mt_in hxy (mt_sym (meets_mt.1 hm))))
   ·exact hgy
theorem roundP_grow {gs:List GC} {x:GC} (hx:x.ins=0):Grow gs x (roundP gs x):=by
 obtain ⟨h1,h2,h3,h4⟩:=foldP_grow gs gs x x (fun _ h=>h) hx
 exact ⟨h1,h2,fun y hy hxy=>h3 y hy hxy hxy,h4⟩
/-- so many rounds of the model -/
def itM (gs:List GC):Nat→GC→GC
 | 0,x=>x
 | n+1,x=>roundM gs (itM gs n x)
theorem itM_facts {gs:List GC} {x:GC} (hx:x.ins=0):∀ n,inG x (itM gs n x)∧(∀ y,Closed2 gs y→inG x y→inG (itM gs n x) y)∧(itM gs n x).ins=0∧(Closed2 gs (itM gs n x)∨n≤cntG gs (itM gs n x))
 | 0=>⟨in_refl _,fun _ _ h=>h,hx,.inr (Nat.zero_le _)⟩
 | n+1=>by
  obtain ⟨h1,h2,h3,h4⟩:=itM_facts hx n
  have g:=roundM_grow (gs:=gs) h3
  refine ⟨in_trans h1 g.ge,fun y hy hxy=>g.le y hy (h2 y hy hxy),g.ins,?_⟩
  by_cases hc:Closed2 gs (itM gs n x)
  ·left
   show Closed2 gs (roundM gs (itM gs n x))
   rw [g.fix hc h3]
   exact hc
  ·right
   rcases h4 with h4 | h4
   ·exact absurd h4 hc
   ·have:=g.more hc
    show n+1≤cntG gs (roundM gs (itM gs n x))
    omega
theorem closed_all {gs:List GC} {y:GC} (h:gs.length≤cntG gs y):Closed2 gs y:=by
 have e:cntG gs y=gs.length:=Nat.le_antisymm (cntG_le gs y) h
 intro c hc _
 exact of_decide_eq_true (List.countP_eq_length.1 e c hc)
def rangeG (gs:List GC) (x:GC):GC:=itM gs gs.length x
theorem range_least {gs:List GC} {x:GC} (hx:x.ins=0):Least gs x (rangeG gs x):=by
 obtain ⟨h1,h2,h3,h4⟩:=itM_facts (gs:=gs) hx gs.length
 refine ⟨h1,?_,h2,h3⟩
 rcases h4 with h | h
 ·exact h
 ·exact closed_all h
/-- a part that the program has come to, if no cell brings more -/
theorem range_is {gs:List GC} {x y:GC} (hx:x.ins=0) (h:inG x y) (l:∀ z,Closed2 gs z→inG x z→inG y z) (i:y.ins=0) (f:roundP gs y=y):y=rangeG gs x:=by
 have g:=roundP_grow (gs:=gs) i
 rw [f] at g
 exact Least.one ⟨h,g.closed,l,i⟩ (range_least hx)
theorem whole_closed {gs:List GC} {R C:Int} (h:∀ c ∈ gs,FitP R C c):Closed2 gs ⟨0,0,R,C,0⟩:=by
 intro c hc _
 have:=h c hc
 unfold FitP at this
 unfold inG
 simp only
 omega
theorem range_fit {gs:List GC} {R C:Int} (h:∀ c ∈ gs,FitP R C c) {x:GC} (hx:x.ins=0) (hf:FitP R C x):FitP R C (rangeG gs x):=by
 have L:=range_least (gs:=gs) hx
 have h1:=L.le _ (whole_closed h) (by unfold inG;unfold FitP at hf;simp only;omega)
 have h2:=L.ge
 unfold inG at h1 h2
 unfold FitP at hf ⊢
 simp only at h1
 omega
theorem foldM_fit {R C:Int}:∀ (l:List GC) (x:GC),(∀ c ∈ l,FitP R C c)→FitP R C x→FitP R C (l.foldl stepM x)
 | [],_,_,h=>h
 | d :: l,x,hl,h=>by
  rw [List.foldl_cons]
  refine foldM_fit l _ (fun c hc=>hl c (List.mem_cons_of_mem _ hc)) ?_
  unfold stepM
  split
  ·exact span_fit h (hl d (List.mem_cons_self ..))
  ·exact h
theorem foldP_fit {R C:Int} (y:GC):∀ (l:List GC) (x:GC),(∀ c ∈ l,FitP R C c)→FitP R C x→FitP R C (l.foldl (stepP y) x)
 | [],_,_,h=>h
 | d :: l,x,hl,h=>by
  rw [List.foldl_cons]
  refine foldP_fit y l _ (fun c hc=>hl c (List.mem_cons_of_mem _ hc)) ?_
  unfold stepP
  split
  ·exact span_fit h (hl d (List.mem_cons_self ..))
  ·exact h
theorem itM_fit {R C:Int} {gs:List GC} {x:GC} (hl:∀ c ∈ gs,FitP R C c) (h:FitP R C x):∀ n,FitP R C (itM gs n x)
 | 0=>h
 | n+1=>foldM_fit gs _ hl (itM_fit hl h n)
end Go.Proofs.Ytggmjiddadjilaj
namespace Go.Proofs.Ytggmjiddadjilaj
open Go.RowKit

set_option maxRecDepth 100000 in
set_option maxHeartbeats 1000000 in
theorem boundsOk_any (R C:Int) (ac:Option Addr) (n cc:Nat) (w:World) :
  Calls Try.prog 89 #[.agg #[.int .i64 R,.int .i64 C,.slice ac n cc]] w fun e w'=>e=.returned (.bool (boundsB R C n))∧Below w.heap.size w w':=by
 cases h1:inB R 1 8 with
 | false =>
  have HE:Hid (boundsB R C n=false):=by simp only [boundsB,h1,Bool.false_and];exact trivial
  have K1:=Hid.intro (within_any R 1 8)
  rw [h1] at K1
  go_enter Try.func89,Try.ntmps89
  go_wp2_with fail
  refine (K1.out _).mono ?_
  rintro e w1 ⟨rfl,rfl⟩
  go_wp2
  go_ret
  exact ⟨retB HE.out.symm,k_alloc (Below.refl _ _) _⟩
 | true =>
  cases h2:inB C 1 94 with
  | false =>
   have HE:Hid (boundsB R C n=false):=by simp only [boundsB,h2,Bool.false_and,Bool.and_false];exact trivial
   have K1:=Hid.intro (within_any R 1 8)
   have K2:=Hid.intro (within_any C 1 94)
   rw [h1] at K1
   rw [h2] at K2
   go_enter Try.func89,Try.ntmps89
   go_wp2_with fail
   refine (K1.out _).mono ?_
   rintro e w1 ⟨rfl,rfl⟩
   go_wp2_with fail
   refine (K2.out _).mono ?_
   rintro e w1 ⟨rfl,rfl⟩
   go_wp2
   go_ret
   exact ⟨retB HE.out.symm,k_alloc (Below.refl _ _) _⟩
  | true =>
   have HE:Hid (boundsB R C n=decide ((n:Int)≤40)):=by
    show boundsB R C n=_
    simp only [boundsB,h1,h2,Bool.true_and]
    exact decide_eq_decide.2 (by omega)
   have K1:=Hid.intro (within_any R 1 8)
   have K2:=Hid.intro (within_any C 1 94)
   rw [h1] at K1
   rw [h2] at K2
   go_enter Try.func89,Try.ntmps89
   go_wp2_with fail
   refine (K1.out _).mono ?_
   rintro e w1 ⟨rfl,rfl⟩
   go_wp2_with fail
   refine (K2.out _).mono ?_
   rintro e w1 ⟨rfl,rfl⟩
   go_wp2
   go_ret
   exact ⟨retB HE.out.symm,k_alloc (Below.refl _ _) _⟩

set_option maxRecDepth 100000 in
set_option maxHeartbeats 2000000 in
theorem cellFits_any (R C:Int) (v:Value) (x:GC) (hx:GOk x) (hR:1≤R∧R≤8) (hC:1≤C∧C≤94) (w:World) :
  Calls Try.prog 90 #[.agg #[.int .i64 R,.int .i64 C,v],.agg #[.int .i64 x.row,.int .i64 x.col,.int .i64 x.rows,.int .i64 x.cols,.int .i64 x.ins]] w fun e w'=>e=.returned (.bool (fitsB R C x))∧Below w.heap.size w w':=by
 obtain ⟨b0,b1,b2,b3,b4⟩:=hx
 unfold I64 at b0 b1 b2 b3 b4
 have K1:=Hid.intro (within_any x.row 0 (R - 1))
 have K2:=Hid.intro (within_any x.rows 1 (R - x.row))
 have K3:=Hid.intro (within_any x.col 0 (C - 1))
 have K4:=Hid.intro (within_any x.cols 1 (C - x.col))
 have K5:=Hid.intro (within_any x.ins 0 4)
 have p1:IntKind.i64.wrap (R - 1)=R - 1:=by rw [IntKind.wrap_i64];omega
 have p3:IntKind.i64.wrap (C - 1)=C - 1:=by rw [IntKind.wrap_i64];omega
 cases h1:inB x.row 0 (R - 1) with
 | false =>
  rw [h1] at K1
  have HE:Hid (fitsB R C x=false):=by
   show fitsB R C x=false
   simp only [fitsB,h1,Bool.false_and]
  go_enter Try.func90,Try.ntmps90
  go_wp2_with fail
  refine (K1.out _).mono ?_
  rintro e w1 ⟨rfl,rfl⟩
  go_wp2
  go_ret
  exact ⟨retB HE.out.symm,k_alloc (k_alloc (Below.refl _ _) _) _⟩
 | true =>
  rw [h1] at K1
  have p2:IntKind.i64.wrap (R - x.row)=R - x.row:=by
   have:=of_decide_eq_true h1
   rw [IntKind.wrap_i64];omega
  cases h2:inB x.rows 1 (R - x.row) with
  | false =>
   rw [h2] at K2
   have HE:Hid (fitsB R C x=false):=by
    show fitsB R C x=false
    simp only [fitsB,h2,Bool.false_and,Bool.and_false]
   go_enter Try.func90,Try.ntmps90
   go_wp2_with fail
   refine (K1.out _).mono ?_
   rintro e w1 ⟨rfl,rfl⟩
   go_wp2_with fail
   refine (K2.out _).mono ?_
   rintro e w1 ⟨rfl,rfl⟩
   go_wp2
   go_ret
   exact ⟨retB HE.out.symm,k_alloc (k_alloc (Below.refl _ _) _) _⟩
  | true =>
   rw [h2] at K2
   cases h3:inB x.col 0 (C - 1) with
   | false =>
    rw [h3] at K3
    have HE:Hid (fitsB R C x=false):=by
     show fitsB R C x=false
     simp only [fitsB,h3,Bool.false_and,Bool.and_false]
    go_enter Try.func90,Try.ntmps90
    go_wp2_with fail
    refine (K1.out _).mono ?_
    rintro e w1 ⟨rfl,rfl⟩
    go_wp2_with fail
    refine (K2.out _).mono ?_
    rintro e w1 ⟨rfl,rfl⟩
    go_wp2_with fail
    refine (K3.out _).mono ?_
    rintro e w1 ⟨rfl,rfl⟩
    go_wp2
    go_ret
    exact ⟨retB HE.out.symm,k_alloc (k_alloc (Below.refl _ _) _) _⟩
   | true =>
    rw [h3] at K3
    have p4:IntKind.i64.wrap (C - x.col)=C - x.col:=by
     have:=of_decide_eq_true h3
     rw [IntKind.wrap_i64];omega
    cases h4:inB x.cols 1 (C - x.col) with
    | false =>
     rw [h4] at K4
     have HE:Hid (fitsB R C x=false):=by
      show fitsB R C x=false
      simp only [fitsB,h4,Bool.false_and,Bool.and_false]
     go_enter Try.func90,Try.ntmps90
     go_wp2_with fail
     refine (K1.out _).mono ?_
     rintro e w1 ⟨rfl,rfl⟩
     go_wp2_with fail
     refine (K2.out _).mono ?_
     rintro e w1 ⟨rfl,rfl⟩
     go_wp2_with fail
     refine (K3.out _).mono ?_
     rintro e w1 ⟨rfl,rfl⟩
     go_wp2_with fail
     refine (K4.out _).mono ?_
     rintro e w1 ⟨rfl,rfl⟩
     go_wp2
     go_ret
     exact ⟨retB HE.out.symm,k_alloc (k_alloc (Below.refl _ _) _) _⟩
    | true =>
     rw [h4] at K4
     cases h5:inB x.ins 0 4 with
     | false =>
      rw [h5] at K5
      have HE:Hid (fitsB R C x=false):=by
       show fitsB R C x=false
       simp only [fitsB,h5,Bool.and_false]
      go_enter Try.func90,Try.ntmps90
      go_wp2_with fail
      refine (K1.out _).mono ?_
      rintro e w1 ⟨rfl,rfl⟩
      go_wp2_with fail
      refine (K2.out _).mono ?_
      rintro e w1 ⟨rfl,rfl⟩
      go_wp2_with fail
      refine (K3.out _).mono ?_
      rintro e w1 ⟨rfl,rfl⟩
      go_wp2_with fail
      refine (K4.out _).mono ?_
      rintro e w1 ⟨rfl,rfl⟩
      go_wp2_with fail
      refine (K5.out _).mono ?_
      rintro e w1 ⟨rfl,rfl⟩
      go_wp2
      go_ret
      exact ⟨retB HE.out.symm,k_alloc (k_alloc (Below.refl _ _) _) _⟩
     | true =>
      rw [h5] at K5
      have HE:Hid (fitsB R C x=true):=by
       show fitsB R C x=true
       simp only [fitsB,h1,h2,h3,h4,h5,Bool.and_self]
      go_enter Try.func90,Try.ntmps90
      go_wp2_with fail
      refine (K1.out _).mono ?_
      rintro e w1 ⟨rfl,rfl⟩
      go_wp2_with fail
      refine (K2.out _).mono ?_
      rintro e w1 ⟨rfl,rfl⟩
      go_wp2_with fail
      refine (K3.out _).mono ?_
      rintro e w1 ⟨rfl,rfl⟩
      go_wp2_with fail
      refine (K4.out _).mono ?_
      rintro e w1 ⟨rfl,rfl⟩
      go_wp2_with fail
      refine (K5.out _).mono ?_
      rintro e w1 ⟨rfl,rfl⟩
      go_wp2
      go_ret
      exact ⟨retB HE.out.symm,k_alloc (k_alloc (Below.refl _ _) _) _⟩
end Go.Proofs.Ytggmjiddadjilaj
namespace Go.Proofs.Ytggmjiddadjilaj
open Go.RowKit

theorem allFreeG {R C:Int} {x:GC} (hf:fitsB R C x=true) (hR:R≤8) (hC:C≤94) (w:World) (B:Nat) (L:List (Nat × Nat)) (hT:TakAt w B L) :
  Calls Try.prog 66 #[.map (some B),.agg #[.int .i64 x.row,.int .i64 x.col,.int .i64 x.rows,.int .i64 x.cols,.int .i64 x.ins]] w fun e w'=>e=.returned (.bool (freeIn L x.row.toNat x.col.toNat x.rows.toNat x.cols.toNat))∧Below w.heap.size w w':=by
 obtain ⟨e1,e2,e3,e4,h1,h2,h3,h4⟩:=fits_of hf
 have h:=allFree_any x.row.toNat x.col.toNat x.rows.toNat x.cols.toNat x.ins (by omega) (by omega) w B L hT
 unfold gcV at h
 rw [← e1,← e2,← e3,← e4] at h
 exact h
theorem takeG {R C:Int} {x:GC} (hf:fitsB R C x=true) (hR:R≤8) (hC:C≤94) (w:World) (B:Nat) (L:List (Nat × Nat)) (hT:TakAt w B L) (hL:L.length≤40 * 752) :
  Calls Try.prog 67 #[.map (some B),.agg #[.int .i64 x.row,.int .i64 x.col,.int .i64 x.rows,.int .i64 x.cols,.int .i64 x.ins]] w fun e w'=>(∃ v,e=.returned v)∧TakAt w' B (L ++ (slotsG x).map (·.1))∧w.grownBy w' (some B):=by
 have hl:=slotsG_len hf hR hC
 obtain ⟨e1,e2,e3,e4,h1,h2,h3,h4⟩:=fits_of hf
 have h:=take_any x.row.toNat x.col.toNat x.rows.toNat x.cols.toNat x.ins (by omega) (by omega) w B L hT (by show _+(slotsG x).length < _;omega)
 unfold gcV at h
 rw [← e1,← e2,← e3,← e4] at h
 exact h
end Go.Proofs.Ytggmjiddadjilaj
namespace Go.Proofs.Ytggmjiddadjilaj
open Go.RowKit

/-- what takersOf hands back -/
def TakOut (g:G) (w:World) (e:Ending) (w':World):Prop :=
 (okB g=false∧e=.returned (.tuple #[.map none,.bool false]))∨(okB g=true∧∃ B,w.heap.size≤B∧e=.returned (.tuple #[.map (some B),.bool true])∧TakAt w' B (takenBy g.cells))

set_option maxRecDepth 100000 in
set_option maxHeartbeats 2000000 in
theorem takersOf_any (R C:Int) (ac:Option Addr) (cc:Nat) (gs:List GC) (w:World) {z:Nat} (h:GsAt w z (.slice ac gs.length cc) gs) :
  Calls Try.prog 71 #[.agg #[.int .i64 R,.int .i64 C,.slice ac gs.length cc]] w fun e w'=>TakOut ⟨R,C,gs⟩ w e w'∧Below w.heap.size w w':=by
 obtain ⟨_,_,_,hlen⟩:=At.form h
 unfold maxLen at hlen
 have H:=Hid.intro h
 clear h
 have hmm:=@run_makeMap Try.prog
 have KB:=Hid.intro (boundsOk_any R C ac gs.length cc)
 cases hb:boundsB R C gs.length with
 | false =>
  rw [hb] at KB
  have HF:Hid (okB ⟨R,C,gs⟩=false):=okB_false1 hb
  go_enter Try.func71,Try.ntmps71
  go_wp2_with fail
  refine (KB.out _).mono ?_
  rintro e w1 ⟨rfl,hb1⟩
  have K1:=Hid.intro (k_trans (k_alloc (Below.refl w.heap.size w) (.cells #[.int .i64 R,.int .i64 C,.slice ac gs.length cc] 25)) hb1)
  clear hb1
  go_wp2
  refine bodyPost_ret (results_tmp2 rfl _ _ _) rfl ?_
  exact ⟨.inl ⟨HF.out,rfl⟩,K1.out⟩
 | true =>
  rw [hb] at KB
  obtain ⟨hR1,hR2,hC1,hC2,hn⟩:=bounds_of hb
  have HBB:=Hid.intro hb
  clear hb
  go_enter Try.func71,Try.ntmps71
  go_wp2_with fail
  refine (KB.out _).mono ?_
  rintro e w1 ⟨rfl,hb1⟩
  have K1:=Hid.intro (k_trans (k_alloc (Below.refl w.heap.size w) (.cells #[.int .i64 R,.int .i64 C,.slice ac gs.length cc] 25)) hb1)
  have X1:=Hid.intro ((hb1.block w.heap.size (by simp)).trans (newestB _ _))
  have hs1:w.heap.size < w1.heap.size:=by have:=hb1.size;simp at this;omega
  clear hb1
  have g2:w1.cell? ⟨w.heap.size,2,none⟩=some (.slice ac gs.length cc):=cellB X1.out
  go_wp2_with fail
  have hBz:w.heap.size ≠ w1.heap.size:=by omega
  go_loopw [14] (fun i W=>∃ k:Nat,k≤gs.length∧i=.int .i64 k∧Hid (okTo R C gs k=true)∧Hid (TakAt W w1.heap.size (takenBy (gs.take k)))∧Hid (Below w.heap.size w W)∧Hid (W.heap[w.heap.size]?=some (.cells #[.int .i64 R,.int .i64 C,.slice ac gs.length cc] 25))) (fun i _=>gs.length - (intOf i).toNat)
  case atStart=>exact ⟨0,Nat.zero_le _,rfl,okTo_zero _ _ _,TakAt.new w1,k_alloc K1.out _,(Below.heap_alloc _ _ _ hs1).trans X1.out⟩
  case round =>
   obtain ⟨k,hk,rfl,HO,HT,HB,HX⟩:=hrel
   have g0:wr.cell? ⟨w.heap.size,0,none⟩=some (.int .i64 R):=cellB HX.out
   have g1:wr.cell? ⟨w.heap.size,1,none⟩=some (.int .i64 C):=cellB HX.out
   have g2':wr.cell? ⟨w.heap.size,2,none⟩=some (.slice ac gs.length cc):=cellB HX.out
   have hzr:w.heap.size < wr.heap.size:=(Array.getElem?_eq_some_iff.1 HX.out).1
   by_cases hlt:k < gs.length
   ·obtain ⟨q,off,cap',e',hc1,hc2,hbl,hx,hs⟩:=At.get (H.out.kept HB.out) hlt
    simp only [Value.slice.injEq,true_and] at e'
    obtain ⟨rfl,rfl⟩:=e'
    have HN:Hid (fitsB R C (gs.getD k dG)=true→freeG (gs.take k) (gs.getD k dG)=true→okTo R C gs (k+1)=true):=fun h1 h2=>okTo_succ HO.out h1 h2
    have HF:Hid ((fitsB R C (gs.getD k dG) && freeG (gs.take k) (gs.getD k dG))=false→okB ⟨R,C,gs⟩=false):=fun h1=>okB_false2 (okTo_false hlt h1)
    have HE:Hid (fitsB R C (gs.getD k dG)=true→freeIn (takenBy (gs.take k)) (gs.getD k dG).row.toNat (gs.getD k dG).col.toNat (gs.getD k dG).rows.toNat (gs.getD k dG).cols.toNat=freeG (gs.take k) (gs.getD k dG)):=fun h1=>free_eq (okTo_fits (Nat.le_of_lt hlt) HO.out) h1 hR2 hC2
    have HS:Hid (takenBy (gs.take (k+1))=takenBy (gs.take k) ++ (slotsG (gs.getD k dG)).map (·.1)):=by
     show takenBy (gs.take (k+1))=_
     rw [← takenBy_snoc,List.take_succ_eq_append_getElem hlt]
     simp [List.getD,hlt]
    have HLn:Hid ((takenBy (gs.take k)).length≤40 * 752):=by
     have:=takenBy_len hR2 hC2 (gs.take k) (okTo_fits (Nat.le_of_lt hlt) HO.out)
     rw [List.length_take] at this
     show (takenBy (gs.take k)).length≤40 * 752
     omega
    have KF:=Hid.intro (cellFits_any R C (.slice (some ⟨q,off,none⟩) gs.length cc) (gs.getD k dG) hs ⟨hR1,hR2⟩ ⟨hC1,hC2⟩)
    generalize gs.getD k dG=x at hx HN HF HE HS KF
    obtain ⟨x0,x1,x2,x3,x4⟩:=hx
    unfold maxLen at hc2
    clear hs
    cases h1:fitsB R C x with
    | false =>
     have HF':=Hid.intro (HF.out (by simp only [h1,Bool.false_and]))
     rw [h1] at KF
     clear HN HF HE HS HO h1
     go_wp2_with fail
     refine (KF.out _).mono ?_
     rintro e w3 ⟨rfl,hb3⟩
     have HB3:=Hid.intro (k_trans (k_alloc HB.out _) hb3)
     clear hb3
     go_wp2
     refine bodyPost_ret (results_tmp2 rfl _ _ _) rfl ?_
     exact ⟨.inl ⟨HF'.out,rfl⟩,HB3.out⟩
    | true =>
     have KA:=Hid.intro (fun (W:World) (B:Nat)=>allFreeG (x:=x) h1 hR2 hC2 W B (takenBy (gs.take k)))
     have KT:=Hid.intro (takeG (x:=x) h1 hR2 hC2)
     rw [HE.out h1] at KA
     rw [h1] at KF
     go_wp2_with fail
     refine (KF.out _).mono ?_
     rintro e w3 ⟨rfl,hb3⟩
     have HB3:=Hid.intro (k_trans (k_alloc HB.out _) hb3)
     have HX3:=Hid.intro ((hb3.block w.heap.size (by simp;omega)).trans ((Below.heap_alloc _ _ _ hzr).trans HX.out))
     have HY3:=Hid.intro ((hb3.block wr.heap.size (by simp)).trans (newestB _ _))
     have hzt:=HT.out.lt
     have HT3:Hid (TakAt w3 w1.heap.size (takenBy (gs.take k))):=HT.out.of_block ((hb3.block _ (by simp;omega)).trans (Below.heap_alloc _ _ _ hzt))
     have y0:w3.cell? ⟨wr.heap.size,0,none⟩=some (.int .i64 x.row):=cellB HY3.out
     have y1:w3.cell? ⟨wr.heap.size,1,none⟩=some (.int .i64 x.col):=cellB HY3.out
     have y2:w3.cell? ⟨wr.heap.size,2,none⟩=some (.int .i64 x.rows):=cellB HY3.out
     have y3:w3.cell? ⟨wr.heap.size,3,none⟩=some (.int .i64 x.cols):=cellB HY3.out
     have y4:w3.cell? ⟨wr.heap.size,4,none⟩=some (.int .i64 x.ins):=cellB HY3.out
     clear hb3
     cases h2:freeG (gs.take k) x with
     | false =>
      have HF':=Hid.intro (HF.out (by simp only [h2,Bool.and_false]))
      rw [h2] at KA
      clear HN HF HE HS HO h2 h1
      go_wp2_with fail
      refine (KA.out _ _ HT3.out).mono ?_
      rintro e w4 ⟨rfl,hb4⟩
      have HB4:=Hid.intro (k_trans HB3.out hb4)
      clear hb4
      go_wp2
      refine bodyPost_ret (results_tmp2 rfl _ _ _) rfl ?_
      exact ⟨.inl ⟨HF'.out,rfl⟩,HB4.out⟩
     | true =>
      have HN':=Hid.intro (HN.out h1 h2)
      rw [h2] at KA
      clear HN HF HE HO h2 h1
      go_wp2_with fail
      refine (KA.out _ _ HT3.out).mono ?_
      rintro e w4 ⟨rfl,hb4⟩
      have HB4:=Hid.intro (k_trans HB3.out hb4)
      have hz3:w.heap.size < w3.heap.size:=(Array.getElem?_eq_some_iff.1 HX3.out).1
      have HX4:=Hid.intro ((hb4.block w.heap.size hz3).trans HX3.out)
      have hy3:wr.heap.size < w3.heap.size:=(Array.getElem?_eq_some_iff.1 HY3.out).1
      have HY4:=Hid.intro ((hb4.block wr.heap.size hy3).trans HY3.out)
      have HT4:Hid (TakAt w4 w1.heap.size (takenBy (gs.take k))):=HT3.out.of_block (hb4.block _ HT3.out.lt)
      have z0:w4.cell? ⟨wr.heap.size,0,none⟩=some (.int .i64 x.row):=cellB HY4.out
      have z1:w4.cell? ⟨wr.heap.size,1,none⟩=some (.int .i64 x.col):=cellB HY4.out
      have z2:w4.cell? ⟨wr.heap.size,2,none⟩=some (.int .i64 x.rows):=cellB HY4.out
      have z3:w4.cell? ⟨wr.heap.size,3,none⟩=some (.int .i64 x.cols):=cellB HY4.out
      have z4:w4.cell? ⟨wr.heap.size,4,none⟩=some (.int .i64 x.ins):=cellB HY4.out
      clear hb4 y0 y1 y2 y3 y4
      go_wp2_with fail
      refine (KT.out _ _ _ HT4.out HLn.out).mono ?_
      rintro e w5 ⟨⟨vt,rfl⟩,hT5,hg5⟩
      have HT5:=Hid.intro hT5
      have HB5:Hid (Below w.heap.size w w5):=HB4.out.grown hg5 HB4.out.size (fun j e=>by cases e;omega)
      have hz4:w.heap.size < w4.heap.size:=(Array.getElem?_eq_some_iff.1 HX4.out).1
      have HX5:Hid (w5.heap[w.heap.size]?=_):=Hid.intro ((hg5.block w.heap.size hz4 (by simp;omega)).trans HX4.out)
      clear hT5 hg5
      go_wp2
      go_roundw
      case rel=>exact ⟨k+1,by omega,by go_num,HN',by rw [HS.out];exact HT5.out,HB5,HX5⟩
      case measure=>simp [intOf];omega
   ·obtain rfl:k=gs.length:=by omega
    have HF:Hid (okB ⟨R,C,gs⟩=true):=by
     show okB _=true
     simp only [okB,HBB.out,HO.out,Bool.and_self]
    clear HO
    go_wp2
    refine bodyPost_ret (results_tmp2 rfl _ _ _) rfl ?_
    exact ⟨.inr ⟨HF.out,w1.heap.size,by omega,rfl,by have:=HT.out;rwa [List.take_length] at this⟩,HB.out⟩

set_option maxRecDepth 100000 in
set_option maxHeartbeats 1000000 in
theorem implGrdOk (R C:Int) (ac:Option Addr) (cc:Nat) (gs:List GC) (w:World) {z:Nat} (h:GsAt w z (.slice ac gs.length cc) gs) :
  Calls Try.prog 35 #[.agg #[.int .i64 R,.int .i64 C,.slice ac gs.length cc]] w fun e w'=>e=.returned (.bool (okB ⟨R,C,gs⟩))∧Below w.heap.size w w':=by
 have K0:=Hid.intro (k_alloc (Below.refl w.heap.size w) (.cells #[.int .i64 R,.int .i64 C,.slice ac gs.length cc] 25))
 have H:=Hid.intro (h.kept K0.out)
 clear h
 go_enter Try.func35,Try.ntmps35
 go_wp2_with fail
 refine (takersOf_any R C ac cc gs _ H.out).mono ?_
 rintro e w1 ⟨ho,hb1⟩
 have K1:=Hid.intro (k_trans K0.out hb1)
 clear hb1
 rcases ho with ⟨h1,rfl⟩ | ⟨h1,B,_,rfl,_⟩
 ·have HF:=Hid.intro h1
  clear h1
  go_wp2
  go_ret
  exact ⟨retB HF.out.symm,K1.out⟩
 ·have HF:=Hid.intro h1
  clear h1
  go_wp2
  go_ret
  exact ⟨retB HF.out.symm,K1.out⟩
end Go.Proofs.Ytggmjiddadjilaj
