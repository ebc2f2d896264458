/-
  PROVED HERE: small facts on grids: whether a cell fits, whether cells meet, whether a grid is ok; cells meet just if they have a slot in common. Also: what the program's boundsOk and cellFits answer; nothing that was in memory is turned. Also: what the program's allFree and take do with a cell of a grid, on the map of slots. Also: what the program's takersOf and GrdOk answer at a grid that lies in memory; nothing that was in memory is turned.
-/
import Derived.Test.YtggmjiddadjilacG6
import Derived.Test.YtggmjiddadjilacG5
namespace Go.Proofs.Ytggmjiddadjilac
open Go.RowKit

def boundsB (R C:Int) (n:Nat):Bool:=inB R 1 8 && (inB C 1 94 && decide (n≤40))
def fitsB (R C:Int) (x:GC):Bool:=inB x.row 0 (R - 1) && (inB x.rows 1 (R - x.row) && (inB x.col 0 (C - 1) && (inB x.cols 1 (C - x.col) && inB x.ins 0 4)))
def meetsB (a b:GC):Bool:=decide (a.row < b.row+b.rows) && (decide (b.row < a.row+a.rows) && (decide (a.col < b.col+b.cols) && decide (b.col < a.col+a.cols)))
def freeG (xs:List GC) (x:GC):Bool:=xs.all fun a=>!meetsB a x
def okTo (R C:Int) (gs:List GC) (k:Nat):Bool:=(List.range k).all fun i=>fitsB R C (gs.getD i dG) && freeG (gs.take i) (gs.getD i dG)
def okB (g:G):Bool:=boundsB g.rows g.cols g.cells.length && okTo g.rows g.cols g.cells g.cells.length
theorem okTo_zero (R C:Int) (gs:List GC):okTo R C gs 0=true:=rfl
theorem okTo_succ {R C:Int} {gs:List GC} {k:Nat} (h:okTo R C gs k=true) (h1:fitsB R C (gs.getD k dG)=true) (h2:freeG (gs.take k) (gs.getD k dG)=true):okTo R C gs (k+1)=true:=by
 unfold okTo at h ⊢
 rw [List.range_succ,List.all_append,h]
 simp only [List.all_cons,h1,h2,List.all_nil,Bool.and_self]
theorem okTo_false {R C:Int} {gs:List GC} {k n:Nat} (hk:k < n) (h:(fitsB R C (gs.getD k dG) && freeG (gs.take k) (gs.getD k dG))=false):okTo R C gs n=false:=by
 cases h2:okTo R C gs n with
 | false=>rfl
 | true=>rw [List.all_eq_true.1 h2 k (List.mem_range.2 hk)] at h;cases h
theorem okB_false1 {g:G} (h:boundsB g.rows g.cols g.cells.length=false):okB g=false:=by simp only [okB,h,Bool.false_and]
theorem okB_false2 {g:G} (h:okTo g.rows g.cols g.cells g.cells.length=false):okB g=false:=by simp only [okB,h,Bool.and_false]
theorem bounds_of {R C:Int} {n:Nat} (h:boundsB R C n=true):1≤R∧R≤8∧1≤C∧C≤94∧n≤40:=by
 simp [boundsB,inB] at h
 omega
theorem bounds_intro {R C:Int} {n:Nat} (h1:inB R 1 8=true) (h2:inB C 1 94=true) (h3:n≤40):boundsB R C n=true:=by simp [boundsB,h1,h2,h3]
/-- a cell that fits, in plain numbers -/
def Fit5 (R C:Int) (x:GC) (r c rs cs:Nat):Prop:=x.row=r∧x.col=c∧x.rows=rs∧x.cols=cs∧1≤rs∧1≤cs∧((r+rs:Nat):Int)≤R∧((c+cs:Nat):Int)≤C
theorem fits_of {R C:Int} {x:GC} (h:fitsB R C x=true):Fit5 R C x x.row.toNat x.col.toNat x.rows.toNat x.cols.toNat:=by
 simp [fitsB,inB] at h
 unfold Fit5
 omega
def slotsG (x:GC):List Sl:=rowsSl x.row.toNat x.col.toNat x.cols.toNat x.rows.toNat
/-- the slots of cells -/
def takenBy (gs:List GC):List (Nat × Nat):=(gs.flatMap slotsG).map (·.1)
theorem takenBy_snoc (gs:List GC) (x:GC):takenBy (gs ++ [x])=takenBy gs ++ (slotsG x).map (·.1):=by simp [takenBy]
theorem mem_rowsSl {r c rs cs:Nat} (hr:r+rs≤1000) (hc:c+cs≤1000) (y:Nat × Nat):y ∈ (rowsSl r c cs rs).map (·.1) ↔ (r≤y.1∧y.1 < r+rs)∧c≤y.2∧y.2 < c+cs:=by
 simp only [rowsSl,rowSl,List.mem_map,List.mem_flatMap,List.mem_range]
 constructor
 ·rintro ⟨z,⟨i,hi,j,hj,rfl⟩,rfl⟩
  rw [toSl_val (by omega)]
  dsimp only
  omega
 ·rintro ⟨⟨h1,h2⟩,h3,h4⟩
  refine ⟨toSl (r+(y.1 - r)) (c+(y.2 - c)),⟨y.1 - r,by omega,y.2 - c,by omega,rfl⟩,?_⟩
  rw [toSl_val (by omega)]
  exact Prod.ext (by dsimp only;omega) (by dsimp only;omega)
theorem mem_slotsG {R C:Int} {x:GC} (h:fitsB R C x=true) (hR:R≤8) (hC:C≤94) (y:Nat × Nat):y ∈ (slotsG x).map (·.1) ↔ (x.row≤y.1∧(y.1:Int) < x.row+x.rows)∧x.col≤y.2∧(y.2:Int) < x.col+x.cols:=by
 obtain ⟨e1,e2,e3,e4,h1,h2,h3,h4⟩:=fits_of h
 unfold slotsG
 rw [mem_rowsSl (by omega) (by omega)]
 omega
/-- cells meet just if they have a slot in common -/
theorem meets_iff {R C:Int} {a x:GC} (ha:fitsB R C a=true) (hx:fitsB R C x=true) (hR:R≤8) (hC:C≤94):meetsB a x=true ↔ ∃ y,y ∈ (slotsG a).map (·.1)∧y ∈ (slotsG x).map (·.1):=by
 obtain ⟨a1,a2,a3,a4,a5,a6,a7,a8⟩:=fits_of ha
 obtain ⟨x1,x2,x3,x4,x5,x6,x7,x8⟩:=fits_of hx
 have e:meetsB a x=true ↔ a.row < x.row+x.rows∧x.row < a.row+a.rows∧a.col < x.col+x.cols∧x.col < a.col+a.cols:=by simp [meetsB]
 rw [e]
 constructor
 ·rintro ⟨h1,h2,h3,h4⟩
  refine ⟨(max a.row.toNat x.row.toNat,max a.col.toNat x.col.toNat),(mem_slotsG ha hR hC _).2 ?_,(mem_slotsG hx hR hC _).2 ?_⟩
  ·dsimp only;omega
  ·dsimp only;omega
 ·rintro ⟨y,h1,h2⟩
  have k1:=(mem_slotsG ha hR hC _).1 h1
  have k2:=(mem_slotsG hx hR hC _).1 h2
  omega
theorem free_eq {R C:Int} {gs:List GC} {x:GC} (hg:∀ a ∈ gs,fitsB R C a=true) (hx:fitsB R C x=true) (hR:R≤8) (hC:C≤94):freeIn (takenBy gs) x.row.toNat x.col.toNat x.rows.toNat x.cols.toNat=freeG gs x:=by
 rw [Bool.eq_iff_iff]
 unfold freeIn freeG
 rw [List.all_eq_true,List.all_eq_true]
 constructor
 ·intro h a ha
  cases hm:meetsB a x with
  | false=>rfl
  | true =>
   obtain ⟨y,h1,h2⟩:=(meets_iff (hg a ha) hx hR hC).1 hm
   obtain ⟨z,hz,rfl⟩:=List.mem_map.1 h2
   have:=of_decide_eq_true (h z hz)
   refine absurd ?_ this
   obtain ⟨u,hu,e⟩:=List.mem_map.1 h1
   exact List.mem_map.2 ⟨u,List.mem_flatMap.2 ⟨a,ha,hu⟩,e⟩
 ·intro h z hz
  refine decide_eq_true (fun hm=>?_)
  obtain ⟨u,hu,e⟩:=List.mem_map.1 hm
  obtain ⟨a,ha,hua⟩:=List.mem_flatMap.1 hu
  have:=h a ha
  rw [(meets_iff (hg a ha) hx hR hC).2 ⟨z.1,List.mem_map.2 ⟨u,hua,e⟩,List.mem_map.2 ⟨z,hz,rfl⟩⟩] at this
  cases this
theorem okTo_fits {R C:Int} {gs:List GC} {k:Nat} (hk:k≤gs.length) (h:okTo R C gs k=true):∀ a ∈ gs.take k,fitsB R C a=true:=by
 intro a ha
 obtain ⟨i,hi,rfl⟩:=List.mem_iff_getElem.1 ha
 rw [List.length_take] at hi
 have:=List.all_eq_true.1 h i (List.mem_range.2 (by omega))
 rw [Bool.and_eq_true] at this
 have e:gs.getD i dG=(gs.take k)[i]:=by simp [List.getD,show i < gs.length by omega]
 rw [← e]
 exact this.1
theorem rowSl_len (r c a:Nat):(rowSl r c a).length=a:=by simp [rowSl]
theorem rowsSl_len (r c cs d:Nat):(rowsSl r c cs d).length=d * cs:=by
 induction d with
 | zero=>simp [rowsSl]
 | succ d ih=>rw [rowsSl_succ,List.length_append,ih,rowSl_len,Nat.succ_mul]
theorem slotsG_len {R C:Int} {x:GC} (h:fitsB R C x=true) (hR:R≤8) (hC:C≤94):(slotsG x).length≤752:=by
 obtain ⟨e1,e2,e3,e4,h1,h2,h3,h4⟩:=fits_of h
 unfold slotsG
 rw [rowsSl_len]
 have a1:x.rows.toNat≤8:=by omega
 have a2:x.cols.toNat≤94:=by omega
 exact Nat.mul_le_mul a1 a2
theorem takenBy_len {R C:Int} (hR:R≤8) (hC:C≤94):∀ (gs:List GC),(∀ a ∈ gs,fitsB R C a=true)→(takenBy gs).length≤gs.length * 752
 | [],_=>by simp [takenBy]
 | a :: t,h=>by
  have h1:=slotsG_len (h a (by simp)) hR hC
  have h2:=takenBy_len hR hC t (fun b hb=>h b (by simp [hb]))
  simp only [takenBy,List.length_map,List.flatMap_cons,List.length_append,List.length_cons] at h2 ⊢
  omega
end Go.Proofs.Ytggmjiddadjilac
namespace Go.Proofs.Ytggmjiddadjilac
open Go.RowKit

set_option maxRecDepth 100000 in
set_option maxHeartbeats 1000000 in
theorem boundsOk_any (R C:Int) (ac:Option Addr) (n cc:Nat) (w:World) :
  Calls Try.prog 51 #[.agg #[.int .i64 R,.int .i64 C,.slice ac n cc]] w fun e w'=>e=.returned (.bool (boundsB R C n))∧Below w.heap.size w w':=by
 cases h1:inB R 1 8 with
 | false =>
  have HE:Hid (boundsB R C n=false):=by simp only [boundsB,h1,Bool.false_and];exact trivial
  have K1:=Hid.intro (within_any R 1 8)
  rw [h1] at K1
  go_enter Try.func51,Try.ntmps51
  go_wp2_with fail
  refine (K1.out _).mono ?_
  rintro e w1 ⟨rfl,rfl⟩
  go_wp2
  go_ret
  exact ⟨retB HE.out.symm,k_alloc (Below.refl _ _) _⟩
 | true =>
  cases h2:inB C 1 94 with
  | false =>
   have HE:Hid (boundsB R C n=false):=by simp only [boundsB,h2,Bool.false_and,Bool.and_false];exact trivial
   have K1:=Hid.intro (within_any R 1 8)
   have K2:=Hid.intro (within_any C 1 94)
   rw [h1] at K1
   rw [h2] at K2
   go_enter Try.func51,Try.ntmps51
   go_wp2_with fail
   refine (K1.out _).mono ?_
   rintro e w1 ⟨rfl,rfl⟩
   go_wp2_with fail
   refine (K2.out _).mono ?_
   rintro e w1 ⟨rfl,rfl⟩
   go_wp2
   go_ret
   exact ⟨retB HE.out.symm,k_alloc (Below.refl _ _) _⟩
  | true =>
   have HE:Hid (boundsB R C n=decide ((n:Int)≤40)):=by
    show boundsB R C n=_
    simp only [boundsB,h1,h2,Bool.true_and]
    exact decide_eq_decide.2 (by omega)
   have K1:=Hid.intro (within_any R 1 8)
   have K2:=Hid.intro (within_any C 1 94)
   rw [h1] at K1
   rw [h2] at K2
   go_enter Try.func51,Try.ntmps51
   go_wp2_with fail
   refine (K1.out _).mono ?_
   rintro e w1 ⟨rfl,rfl⟩
   go_wp2_with fail
   refine (K2.out _).mono ?_
   rintro e w1 ⟨rfl,rfl⟩
   go_wp2
   go_ret
   exact ⟨retB HE.out.symm,k_alloc (Below.refl _ _) _⟩

set_option maxRecDepth 100000 in
set_option maxHeartbeats 2000000 in
theorem cellFits_any (R C:Int) (v:Value) (x:GC) (hx:GOk x) (hR:1≤R∧R≤8) (hC:1≤C∧C≤94) (w:World) :
  Calls Try.prog 52 #[.agg #[.int .i64 R,.int .i64 C,v],.agg #[.int .i64 x.row,.int .i64 x.col,.int .i64 x.rows,.int .i64 x.cols,.int .i64 x.ins]] w fun e w'=>e=.returned (.bool (fitsB R C x))∧Below w.heap.size w w':=by
 obtain ⟨b0,b1,b2,b3,b4⟩:=hx
 unfold I64 at b0 b1 b2 b3 b4
 have K1:=Hid.intro (within_any x.row 0 (R - 1))
 have K2:=Hid.intro (within_any x.rows 1 (R - x.row))
 have K3:=Hid.intro (within_any x.col 0 (C - 1))
 have K4:=Hid.intro (within_any x.cols 1 (C - x.col))
 have K5:=Hid.intro (within_any x.ins 0 4)
 have p1:IntKind.i64.wrap (R - 1)=R - 1:=by rw [IntKind.wrap_i64];omega
 have p3:IntKind.i64.wrap (C - 1)=C - 1:=by rw [IntKind.wrap_i64];omega
 cases h1:inB x.row 0 (R - 1) with
 | false =>
  rw [h1] at K1
  have HE:Hid (fitsB R C x=false):=by
   show fitsB R C x=false
   simp only [fitsB,h1,Bool.false_and]
  go_enter Try.func52,Try.ntmps52
  go_wp2_with fail
  refine (K1.out _).mono ?_
  rintro e w1 ⟨rfl,rfl⟩
  go_wp2
  go_ret
  exact ⟨retB HE.out.symm,k_alloc (k_alloc (Below.refl _ _) _) _⟩
 | true =>
  rw [h1] at K1
  have p2:IntKind.i64.wrap (R - x.row)=R - x.row:=by
   have:=of_decide_eq_true h1
   rw [IntKind.wrap_i64];omega
  cases h2:inB x.rows 1 (R - x.row) with
  | false =>
   rw [h2] at K2
   have HE:Hid (fitsB R C x=false):=by
    show fitsB R C x=false
    simp only [fitsB,h2,Bool.false_and,Bool.and_false]
   go_enter Try.func52,Try.ntmps52
   go_wp2_with fail
   refine (K1.out _).mono ?_
   rintro e w1 ⟨rfl,rfl⟩
   go_wp2_with fail
   refine (K2.out _).mono ?_
   rintro e w1 ⟨rfl,rfl⟩
   go_wp2
   go_ret
   exact ⟨retB HE.out.symm,k_alloc (k_alloc (Below.refl _ _) _) _⟩
  | true =>
   rw [h2] at K2
   cases h3:inB x.col 0 (C - 1) with
   | false =>
    rw [h3] at K3
    have HE:Hid (fitsB R C x=false):=by
     show fitsB R C x=false
     simp only [fitsB,h3,Bool.false_and,Bool.and_false]
    go_enter Try.func52,Try.ntmps52
    go_wp2_with fail
    refine (K1.out _).mono ?_
    rintro e w1 ⟨rfl,rfl⟩
    go_wp2_with fail
    refine (K2.out _).mono ?_
    rintro e w1 ⟨rfl,rfl⟩
    go_wp2_with fail
    refine (K3.out _).mono ?_
    rintro e w1 ⟨rfl,rfl⟩
    go_wp2
    go_ret
    exact ⟨retB HE.out.symm,k_alloc (k_alloc (Below.refl _ _) _) _⟩
   | true =>
    rw [h3] at K3
    have p4:IntKind.i64.wrap (C - x.col)=C - x.col:=by
     have:=of_decide_eq_true h3
     rw [IntKind.wrap_i64];omega
    cases h4:inB x.cols 1 (C - x.col) with
    | false =>
     rw [h4] at K4
     have HE:Hid (fitsB R C x=false):=by
      show fitsB R C x=false
      simp only [fitsB,h4,Bool.false_and,Bool.and_false]
     go_enter Try.func52,Try.ntmps52
     go_wp2_with fail
     refine (K1.out _).mono ?_
     rintro e w1 ⟨rfl,rfl⟩
     go_wp2_with fail
     refine (K2.out _).mono ?_
     rintro e w1 ⟨rfl,rfl⟩
     go_wp2_with fail
     refine (K3.out _).mono ?_
     rintro e w1 ⟨rfl,rfl⟩
     go_wp2_with fail
     refine (K4.out _).mono ?_
     rintro e w1 ⟨rfl,rfl⟩
     go_wp2
     go_ret
     exact ⟨retB HE.out.symm,k_alloc (k_alloc (Below.refl _ _) _) _⟩
    | true =>
     rw [h4] at K4
     cases h5:inB x.ins 0 4 with
     | false =>
      rw [h5] at K5
      have HE:Hid (fitsB R C x=false):=by
       show fitsB R C x=false
       simp only [fitsB,h5,Bool.and_false]
      go_enter Try.func52,Try.ntmps52
      go_wp2_with fail
      refine (K1.out _).mono ?_
      rintro e w1 ⟨rfl,rfl⟩
      go_wp2_with fail
      refine (K2.out _).mono ?_
      rintro e w1 ⟨rfl,rfl⟩
      go_wp2_with fail
      refine (K3.out _).mono ?_
      rintro e w1 ⟨rfl,rfl⟩
      go_wp2_with fail
      refine (K4.out _).mono ?_
      rintro e w1 ⟨rfl,rfl⟩
      go_wp2_with fail
      refine (K5.out _).mono ?_
      rintro e w1 ⟨rfl,rfl⟩
      go_wp2
      go_ret
      exact ⟨retB HE.out.symm,k_alloc (k_alloc (Below.refl _ _) _) _⟩
     | true =>
      rw [h5] at K5
      have HE:Hid (fitsB R C x=true):=by
       show fitsB R C x=true
       simp only [fitsB,h1,h2,h3,h4,h5,Bool.and_self]
      go_enter Try.func52,Try.ntmps52
      go_wp2_with fail
      refine (K1.out _).mono ?_
      rintro e w1 ⟨rfl,rfl⟩
      go_wp2_with fail
      refine (K2.out _).mono ?_
      rintro e w1 ⟨rfl,rfl⟩
      go_wp2_with fail
      refine (K3.out _).mono ?_
      rintro e w1 ⟨rfl,rfl⟩
      go_wp2_with fail
      refine (K4.out _).mono ?_
      rintro e w1 ⟨rfl,rfl⟩
      go_wp2_with fail
      refine (K5.out _).mono ?_
      rintro e w1 ⟨rfl,rfl⟩
      go_wp2
      go_ret
      exact ⟨retB HE.out.symm,k_alloc (k_alloc (Below.refl _ _) _) _⟩
end Go.Proofs.Ytggmjiddadjilac
namespace Go.Proofs.Ytggmjiddadjilac
open Go.RowKit

theorem allFreeG {R C:Int} {x:GC} (hf:fitsB R C x=true) (hR:R≤8) (hC:C≤94) (w:World) (B:Nat) (L:List (Nat × Nat)) (hT:TakAt w B L) :
  Calls Try.prog 53 #[.map (some B),.agg #[.int .i64 x.row,.int .i64 x.col,.int .i64 x.rows,.int .i64 x.cols,.int .i64 x.ins]] w fun e w'=>e=.returned (.bool (freeIn L x.row.toNat x.col.toNat x.rows.toNat x.cols.toNat))∧Below w.heap.size w w':=by
 obtain ⟨e1,e2,e3,e4,h1,h2,h3,h4⟩:=fits_of hf
 have h:=allFree_any x.row.toNat x.col.toNat x.rows.toNat x.cols.toNat x.ins (by omega) (by omega) w B L hT
 unfold gcV at h
 rw [← e1,← e2,← e3,← e4] at h
 exact h
theorem takeG {R C:Int} {x:GC} (hf:fitsB R C x=true) (hR:R≤8) (hC:C≤94) (w:World) (B:Nat) (L:List (Nat × Nat)) (hT:TakAt w B L) (hL:L.length≤40 * 752) :
  Calls Try.prog 54 #[.map (some B),.agg #[.int .i64 x.row,.int .i64 x.col,.int .i64 x.rows,.int .i64 x.cols,.int .i64 x.ins]] w fun e w'=>(∃ v,e=.returned v)∧TakAt w' B (L ++ (slotsG x).map (·.1))∧w.grownBy w' (some B):=by
 have hl:=slotsG_len hf hR hC
 obtain ⟨e1,e2,e3,e4,h1,h2,h3,h4⟩:=fits_of hf
 have h:=take_any x.row.toNat x.col.toNat x.rows.toNat x.cols.toNat x.ins (by omega) (by omega) w B L hT (by show _+(slotsG x).length < _;omega)
 unfold gcV at h
 rw [← e1,← e2,← e3,← e4] at h
 exact h
end Go.Proofs.Ytggmjiddadjilac
namespace Go.Proofs.Ytggmjiddadjilac
open Go.RowKit

/-- what takersOf hands back -/
def TakOut (g:G) (w:World) (e:Ending) (w':World):Prop :=
 (okB g=false∧e=.returned (.tuple #[.map none,.bool false]))∨(okB g=true∧∃ B,w.heap.size≤B∧e=.returned (.tuple #[.map (some B),.bool true])∧TakAt w' B (takenBy g.cells))

set_option maxRecDepth 100000 in
set_option maxHeartbeats 2000000 in
theorem takersOf_any (R C:Int) (ac:Option Addr) (cc:Nat) (gs:List GC) (w:World) {z:Nat} (h:GsAt w z (.slice ac gs.length cc) gs) :
  Calls Try.prog 35 #[.agg #[.int .i64 R,.int .i64 C,.slice ac gs.length cc]] w fun e w'=>TakOut ⟨R,C,gs⟩ w e w'∧Below w.heap.size w w':=by
 obtain ⟨_,_,_,hlen⟩:=At.form h
 unfold maxLen at hlen
 have H:=Hid.intro h
 clear h
 have hmm:=@run_makeMap Try.prog
 have KB:=Hid.intro (boundsOk_any R C ac gs.length cc)
 cases hb:boundsB R C gs.length with
 | false =>
  rw [hb] at KB
  have HF:Hid (okB ⟨R,C,gs⟩=false):=okB_false1 hb
  go_enter Try.func35,Try.ntmps35
  go_wp2_with fail
  refine (KB.out _).mono ?_
  rintro e w1 ⟨rfl,hb1⟩
  have K1:=Hid.intro (k_trans (k_alloc (Below.refl w.heap.size w) (.cells #[.int .i64 R,.int .i64 C,.slice ac gs.length cc] 25)) hb1)
  clear hb1
  go_wp2
  refine bodyPost_ret (results_tmp2 rfl _ _ _) rfl ?_
  exact ⟨.inl ⟨HF.out,rfl⟩,K1.out⟩
 | true =>
  rw [hb] at KB
  obtain ⟨hR1,hR2,hC1,hC2,hn⟩:=bounds_of hb
  have HBB:=Hid.intro hb
  clear hb
  go_enter Try.func35,Try.ntmps35
  go_wp2_with fail
  refine (KB.out _).mono ?_
  rintro e w1 ⟨rfl,hb1⟩
  have K1:=Hid.intro (k_trans (k_alloc (Below.refl w.heap.size w) (.cells #[.int .i64 R,.int .i64 C,.slice ac gs.length cc] 25)) hb1)
  have X1:=Hid.intro ((hb1.block w.heap.size (by simp)).trans (newestB _ _))
  have hs1:w.heap.size < w1.heap.size:=by have:=hb1.size;simp at this;omega
  clear hb1
  have g2:w1.cell? ⟨w.heap.size,2,none⟩=some (.slice ac gs.length cc):=cellB X1.out
  go_wp2_with fail
  have hBz:w.heap.size ≠ w1.heap.size:=by omega
  go_loopw [14] (fun i W=>∃ k:Nat,k≤gs.length∧i=.int .i64 k∧Hid (okTo R C gs k=true)∧Hid (TakAt W w1.heap.size (takenBy (gs.take k)))∧Hid (Below w.heap.size w W)∧Hid (W.heap[w.heap.size]?=some (.cells #[.int .i64 R,.int .i64 C,.slice ac gs.length cc] 25))) (fun i _=>gs.length - (intOf i).toNat)
  case atStart=>exact ⟨0,Nat.zero_le _,rfl,okTo_zero _ _ _,TakAt.new w1,k_alloc K1.out _,(Below.heap_alloc _ _ _ hs1).trans X1.out⟩
  case round =>
   obtain ⟨k,hk,rfl,HO,HT,HB,HX⟩:=hrel
   have g0:wr.cell? ⟨w.heap.size,0,none⟩=some (.int .i64 R):=cellB HX.out
   have g1:wr.cell? ⟨w.heap.size,1,none⟩=some (.int .i64 C):=cellB HX.out
   have g2':wr.cell? ⟨w.heap.size,2,none⟩=some (.slice ac gs.length cc):=cellB HX.out
   have hzr:w.heap.size < wr.heap.size:=(Array.getElem?_eq_some_iff.1 HX.out).1
   by_cases hlt:k < gs.length
   ·obtain ⟨q,off,cap',e',hc1,hc2,hbl,hx,hs⟩:=At.get (H.out.kept HB.out) hlt
    simp only [Value.slice.injEq,true_and] at e'
    obtain ⟨rfl,rfl⟩:=e'
    have HN:Hid (fitsB R C (gs.getD k dG)=true→freeG (gs.take k) (gs.getD k dG)=true→okTo R C gs (k+1)=true):=fun h1 h2=>okTo_succ HO.out h1 h2
    have HF:Hid ((fitsB R C (gs.getD k dG) && freeG (gs.take k) (gs.getD k dG))=false→okB ⟨R,C,gs⟩=false):=fun h1=>okB_false2 (okTo_false hlt h1)
    have HE:Hid (fitsB R C (gs.getD k dG)=true→freeIn (takenBy (gs.take k)) (gs.getD k dG).row.toNat (gs.getD k dG).col.toNat (gs.getD k dG).rows.toNat (gs.getD k dG).cols.toNat=freeG (gs.take k) (gs.getD k dG)):=fun h1=>free_eq (okTo_fits (Nat.le_of_lt hlt) HO.out) h1 hR2 hC2
    have HS:Hid (takenBy (gs.take (k+1))=takenBy (gs.take k) ++ (slotsG (gs.getD k dG)).map (·.1)):=by
     show takenBy (gs.take (k+1))=_
     rw [← takenBy_snoc,List.take_succ_eq_append_getElem hlt]
     simp [List.getD,hlt]
    have HLn:Hid ((takenBy (gs.take k)).length≤40 * 752):=by
     have:=takenBy_len hR2 hC2 (gs.take k) (okTo_fits (Nat.le_of_lt hlt) HO.out)
     rw [List.length_take] at this
     show (takenBy (gs.take k)).length≤40 * 752
     omega
    have KF:=Hid.intro (cellFits_any R C (.slice (some ⟨q,off,none⟩) gs.length cc) (gs.getD k dG) hs ⟨hR1,hR2⟩ ⟨hC1,hC2⟩)
    generalize gs.getD k dG=x at hx HN HF HE HS KF
    obtain ⟨x0,x1,x2,x3,x4⟩:=hx
    unfold maxLen at hc2
    clear hs
    cases h1:fitsB R C x with
    | false =>
     have HF':=Hid.intro (HF.out (by simp only [h1,Bool.false_and]))
     rw [h1] at KF
     clear HN HF HE HS HO h1
     go_wp2_with fail
     refine (KF.out _).mono ?_
     rintro e w3 ⟨rfl,hb3⟩
     have HB3:=Hid.intro (k_trans (k_alloc HB.out _) hb3)
     clear hb3
     go_wp2
     refine bodyPost_ret (results_tmp2 rfl _ _ _) rfl ?_
     exact ⟨.inl ⟨HF'.out,rfl⟩,HB3.out⟩
    | true =>
     have KA:=Hid.intro (fun (W:World) (B:Nat)=>allFreeG (x:=x) h1 hR2 hC2 W B (takenBy (gs.take k)))
     have KT:=Hid.intro (takeG (x:=x) h1 hR2 hC2)
     rw [HE.out h1] at KA
     rw [h1] at KF
     go_wp2_with fail
     refine (KF.out _).mono ?_
     rintro e w3 ⟨rfl,hb3⟩
     have HB3:=Hid.intro (k_trans (k_alloc HB.out _) hb3)
     have HX3:=Hid.intro ((hb3.block w.heap.size (by simp;omega)).trans ((Below.heap_alloc _ _ _ hzr).trans HX.out))
     have HY3:=Hid.intro ((hb3.block wr.heap.size (by simp)).trans (newestB _ _))
     have hzt:=HT.out.lt
     have HT3:Hid (TakAt w3 w1.heap.size (takenBy (gs.take k))):=HT.out.of_block ((hb3.block _ (by simp;omega)).trans (Below.heap_alloc _ _ _ hzt))
     have y0:w3.cell? ⟨wr.heap.size,0,none⟩=some (.int .i64 x.row):=cellB HY3.out
     have y1:w3.cell? ⟨wr.heap.size,1,none⟩=some (.int .i64 x.col):=cellB HY3.out
     have y2:w3.cell? ⟨wr.heap.size,2,none⟩=some (.int .i64 x.rows):=cellB HY3.out
     have y3:w3.cell? ⟨wr.heap.size,3,none⟩=some (.int .i64 x.cols):=cellB HY3.out
     have y4:w3.cell? ⟨wr.heap.size,4,none⟩=some (.int .i64 x.ins):=cellB HY3.out
     clear hb3
     cases h2:freeG (gs.take k) x with
     | false =>
      have HF':=Hid.intro (HF.out (by simp only [h2,Bool.and_false]))
      rw [h2] at KA
      clear HN HF HE HS HO h2 h1
      go_wp2_with fail
      refine (KA.out _ _ HT3.out).mono ?_
      rintro e w4 ⟨rfl,hb4⟩
      have HB4:=Hid.intro (k_trans HB3.out hb4)
      clear hb4
      go_wp2
      refine bodyPost_ret (results_tmp2 rfl _ _ _) rfl ?_
      exact ⟨.inl ⟨HF'.out,rfl⟩,HB4.out⟩
     | true =>
      have HN':=Hid.intro (HN.out h1 h2)
      rw [h2] at KA
      clear HN HF HE HO h2 h1
      go_wp2_with fail
      refine (KA.out _ _ HT3.out).mono ?_
      rintro e w4 ⟨rfl,hb4⟩
      have HB4:=Hid.intro (k_trans HB3.out hb4)
      have hz3:w.heap.size < w3.heap.size:=(Array.getElem?_eq_some_iff.1 HX3.out).1
      have HX4:=Hid.intro ((hb4.block w.heap.size hz3).trans HX3.out)
      have hy3:wr.heap.size < w3.heap.size:=(Array.getElem?_eq_some_iff.1 HY3.out).1
      have HY4:=Hid.intro ((hb4.block wr.heap.size hy3).trans HY3.out)
      have HT4:Hid (TakAt w4 w1.heap.size (takenBy (gs.take k))):=HT3.out.of_block (hb4.block _ HT3.out.lt)
      have z0:w4.cell? ⟨wr.heap.size,0,none⟩=some (.int .i64 x.row):=cellB HY4.out
      have z1:w4.cell? ⟨wr.heap.size,1,none⟩=some (.int .i64 x.col):=cellB HY4.out
      have z2:w4.cell? ⟨wr.heap.size,2,none⟩=some (.int .i64 x.rows):=cellB HY4.out
      have z3:w4.cell? ⟨wr.heap.size,3,none⟩=some (.int .i64 x.cols):=cellB HY4.out
      have z4:w4.cell? ⟨wr.heap.size,4,none⟩=some (.int .i64 x.ins):=cellB HY4.out
      clear hb4 y0 y1 y2 y3 y4
      go_wp2_with fail
      refine (KT.out _ _ _ HT4.out HLn.out).mono ?_
      rintro e w5 ⟨⟨vt,rfl⟩,hT5,hg5⟩
      have HT5:=Hid.intro hT5
      have HB5:Hid (Below w.heap.size w w5):=HB4.out.grown hg5 HB4.out.size (fun j e=>by cases e;omega)
      have hz4:w.heap.size < w4.heap.size:=(Array.getElem?_eq_some_iff.1 HX4.out).1
      have HX5:Hid (w5.heap[w.heap.size]?=_):=Hid.intro ((hg5.block w.heap.size hz4 (by simp;omega)).trans HX4.out)
      clear hT5 hg5
      go_wp2
      go_roundw
      case rel=>exact ⟨k+1,by omega,by go_num,HN',by rw [HS.out];exact HT5.out,HB5,HX5⟩
      case measure=>simp [intOf];omega
   ·obtain rfl:k=gs.length:=by omega
    have HF:Hid (okB ⟨R,C,gs⟩=true):=by
     show okB _=true
     simp only [okB,HBB.out,HO.out,Bool.and_self]
    clear HO
    go_wp2
    refine bodyPost_ret (results_tmp2 rfl _ _ _) rfl ?_
    exact ⟨.inr ⟨HF.out,w1.heap.size,by omega,rfl,by have:=HT.out;rwa [List.take_length] at this⟩,HB.out⟩

set_option maxRecDepth 100000 in
set_option maxHeartbeats 1000000 in
theorem implGrdOk (R C:Int) (ac:Option Addr) (cc:Nat) (gs:List GC) (w:World) {z:Nat} (h:GsAt w z (.slice ac gs.length cc) gs) :
  Calls Try.prog 11 #[.agg #[.int .i64 R,.int .i64 C,.slice ac gs.length cc]] w fun e w'=>e=.returned (.bool (okB ⟨R,C,gs⟩))∧Below w.heap.size w w':=by
 have K0:=Hid.intro (k_alloc (Below.refl w.heap.size w) (.cells #[.int .i64 R,.int .i64 C,.slice ac gs.length cc] 25))
 have H:=Hid.intro (h.kept K0.out)
 clear h
 go_enter Try.func11,Try.ntmps11
 go_wp2_with fail
 refine (takersOf_any R C ac cc gs _ H.out).mono ?_
 rintro e w1 ⟨ho,hb1⟩
 have K1:=Hid.intro (k_trans K0.out hb1)
 clear hb1
 rcases ho with ⟨h1,rfl⟩ | ⟨h1,B,_,rfl,_⟩
 ·have HF:=Hid.intro h1
  clear h1
  go_wp2
  go_ret
  exact ⟨retB HF.out.symm,K1.out⟩
 ·have HF:=Hid.intro h1
  clear h1
  go_wp2
  go_ret
  exact ⟨retB HF.out.symm,K1.out⟩
end Go.Proofs.Ytggmjiddadjilac
