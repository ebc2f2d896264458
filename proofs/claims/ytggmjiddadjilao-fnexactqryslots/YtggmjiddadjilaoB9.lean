/-
  PROVED HERE: small facts on grids: whether a cell fits, whether cells meet, whether a grid is ok; cells meet just if they have a slot in common. Also: a row that is filled, cell by cell; letters of slots; how a grid looks. Also: what the program's boundsOk and cellFits answer; nothing that was in memory is turned. Also: what the program's allFree and take do with a cell of a grid, on the map of slots.
-/
import Derived.Test.YtggmjiddadjilaoB6
import Derived.Test.YtggmjiddadjilaoB5
import Derived.Laws.MakeOwn
import Derived.Laws.BytesArg
namespace Go.Proofs.Ytggmjiddadjilao
open Go.RowKit

def boundsB (R C:Int) (n:Nat):Bool:=inB R 1 8 && (inB C 1 94 && decide (n≤40))
def fitsB (R C:Int) (x:GC):Bool:=inB x.row 0 (R - 1) && (inB x.rows 1 (R - x.row) && (inB x.col 0 (C - 1) && (inB x.cols 1 (C - x.col) && inB x.ins 0 4)))
def meetsB (a b:GC):Bool:=decide (a.row < b.row+b.rows) && (decide (b.row < a.row+a.rows) && (decide (a.col < b.col+b.cols) && decide (b.col < a.col+a.cols)))
def freeG (xs:List GC) (x:GC):Bool:=xs.all fun a=>!meetsB a x
def okTo (R C:Int) (gs:List GC) (k:Nat):Bool:=(List.range k).all fun i=>fitsB R C (gs.getD i dG) && freeG (gs.take i) (gs.getD i dG)
def okB (g:G):Bool:=boundsB g.rows g.cols g.cells.length && okTo g.rows g.cols g.cells g.cells.length
theorem okTo_zero (R C:Int) (gs:List GC):okTo R C gs 0=true:=rfl
theorem okTo_succ {R C:Int} {gs:List GC} {k:Nat} (h:okTo R C gs k=true) (h1:fitsB R C (gs.getD k dG)=true) (h2:freeG (gs.take k) (gs.getD k dG)=true):okTo R C gs (k+1)=true:=by
 unfold okTo at h ⊢
 rw [List.range_succ,List.all_append,h]
 simp only [List.all_cons,h1,h2,List.all_nil,Bool.and_self]
theorem okTo_false {R C:Int} {gs:List GC} {k n:Nat} (hk:k < n) (h:(fitsB R C (gs.getD k dG) && freeG (gs.take k) (gs.getD k dG))=false):okTo R C gs n=false:=by
 cases h2:okTo R C gs n with
 | false=>rfl
 | true=>rw [List.all_eq_true.1 h2 k (List.mem_range.2 hk)] at h;cases h
theorem okB_false1 {g:G} (h:boundsB g.rows g.cols g.cells.length=false):okB g=false:=by simp only [okB,h,Bool.false_and]
theorem okB_false2 {g:G} (h:okTo g.rows g.cols g.cells g.cells.length=false):okB g=false:=by simp only [okB,h,Bool.and_false]
theorem bounds_of {R C:Int} {n:Nat} (h:boundsB R C n=true):1≤R∧R≤8∧1≤C∧C≤94∧n≤40:=by
 simp [boundsB,inB] at h
 omega
theorem bounds_intro {R C:Int} {n:Nat} (h1:inB R 1 8=true) (h2:inB C 1 94=true) (h3:n≤40):boundsB R C n=true:=by simp [boundsB,h1,h2,h3]
/-- a cell that fits, in plain numbers -/
def Fit5 (R C:Int) (x:GC) (r c rs cs:Nat):Prop:=x.row=r∧x.col=c∧x.rows=rs∧x.cols=cs∧1≤rs∧1≤cs∧((r+rs:Nat):Int)≤R∧((c+cs:Nat):Int)≤C
theorem fits_of {R C:Int} {x:GC} (h:fitsB R C x=true):Fit5 R C x x.row.toNat x.col.toNat x.rows.toNat x.cols.toNat:=by
 simp [fitsB,inB] at h
 unfold Fit5
 omega
def slotsG (x:GC):List Sl:=rowsSl x.row.toNat x.col.toNat x.cols.toNat x.rows.toNat
/-- the slots of cells -/
def takenBy (gs:List GC):List (Nat × Nat):=(gs.flatMap slotsG).map (·.1)
theorem takenBy_snoc (gs:List GC) (x:GC):takenBy (gs ++ [x])=takenBy gs ++ (slotsG x).map (·.1):=by simp [takenBy]
theorem mem_rowsSl {r c rs cs:Nat} (hr:r+rs≤1000) (hc:c+cs≤1000) (y:Nat × Nat):y ∈ (rowsSl r c cs rs).map (·.1) ↔ (r≤y.1∧y.1 < r+rs)∧c≤y.2∧y.2 < c+cs:=by
 simp only [rowsSl,rowSl,List.mem_map,List.mem_flatMap,List.mem_range]
 constructor
 ·rintro ⟨z,⟨i,hi,j,hj,rfl⟩,rfl⟩
  rw [toSl_val (by omega)]
  dsimp only
  omega
 ·rintro ⟨⟨h1,h2⟩,h3,h4⟩
  refine ⟨toSl (r+(y.1 - r)) (c+(y.2 - c)),⟨y.1 - r,by omega,y.2 - c,by omega,rfl⟩,?_⟩
  rw [toSl_val (by omega)]
  exact Prod.ext (by dsimp only;omega) (by dsimp only;omega)
theorem mem_slotsG {R C:Int} {x:GC} (h:fitsB R C x=true) (hR:R≤8) (hC:C≤94) (y:Nat × Nat):y ∈ (slotsG x).map (·.1) ↔ (x.row≤y.1∧(y.1:Int) < x.row+x.rows)∧x.col≤y.2∧(y.2:Int) < x.col+x.cols:=by
 obtain ⟨e1,e2,e3,e4,h1,h2,h3,h4⟩:=fits_of h
 unfold slotsG
 rw [mem_rowsSl (by omega) (by omega)]
 omega
/-- cells meet just if they have a slot in common -/
theorem meets_iff {R C:Int} {a x:GC} (ha:fitsB R C a=true) (hx:fitsB R C x=true) (hR:R≤8) (hC:C≤94):meetsB a x=true ↔ ∃ y,y ∈ (slotsG a).map (·.1)∧y ∈ (slotsG x).map (·.1):=by
 obtain ⟨a1,a2,a3,a4,a5,a6,a7,a8⟩:=fits_of ha
 obtain ⟨x1,x2,x3,x4,x5,x6,x7,x8⟩:=fits_of hx
 have e:meetsB a x=true ↔ a.row < x.row+x.rows∧x.row < a.row+a.rows∧a.col < x.col+x.cols∧x.col < a.col+a.cols:=by simp [meetsB]
 rw [e]
 constructor
 ·rintro ⟨h1,h2,h3,h4⟩
  refine ⟨(max a.row.toNat x.row.toNat,max a.col.toNat x.col.toNat),(mem_slotsG ha hR hC _).2 ?_,(mem_slotsG hx hR hC _).2 ?_⟩
  ·dsimp only;omega
  ·dsimp only;omega
 ·rintro ⟨y,h1,h2⟩
  have k1:=(mem_slotsG ha hR hC _).1 h1
  have k2:=(mem_slotsG hx hR hC _).1 h2
  omega
theorem free_eq {R C:Int} {gs:List GC} {x:GC} (hg:∀ a ∈ gs,fitsB R C a=true) (hx:fitsB R C x=true) (hR:R≤8) (hC:C≤94):freeIn (takenBy gs) x.row.toNat x.col.toNat x.rows.toNat x.cols.toNat=freeG gs x:=by
 rw [Bool.eq_iff_iff]
 unfold freeIn freeG
 rw [List.all_eq_true,List.all_eq_true]
 constructor
 ·intro h a ha
  cases hm:meetsB a x with
  | false=>rfl
  | true =>
   obtain ⟨y,h1,h2⟩:=(meets_iff (hg a ha) hx hR hC).1 hm
   obtain ⟨z,hz,rfl⟩:=List.mem_map.1 h2
   have:=of_decide_eq_true (h z hz)
   refine absurd ?_ this
   obtain ⟨u,hu,e⟩:=List.mem_map.1 h1
   exact List.mem_map.2 ⟨u,List.mem_flatMap.2 ⟨a,ha,hu⟩,e⟩
 ·intro h z hz
  refine decide_eq_true (fun hm=>?_)
  obtain ⟨u,hu,e⟩:=List.mem_map.1 hm
  obtain ⟨a,ha,hua⟩:=List.mem_flatMap.1 hu
  have:=h a ha
  rw [(meets_iff (hg a ha) hx hR hC).2 ⟨z.1,List.mem_map.2 ⟨u,hua,e⟩,List.mem_map.2 ⟨z,hz,rfl⟩⟩] at this
  cases this
theorem okTo_fits {R C:Int} {gs:List GC} {k:Nat} (hk:k≤gs.length) (h:okTo R C gs k=true):∀ a ∈ gs.take k,fitsB R C a=true:=by
 intro a ha
 obtain ⟨i,hi,rfl⟩:=List.mem_iff_getElem.1 ha
 rw [List.length_take] at hi
 have:=List.all_eq_true.1 h i (List.mem_range.2 (by omega))
 rw [Bool.and_eq_true] at this
 have e:gs.getD i dG=(gs.take k)[i]:=by simp [List.getD,show i < gs.length by omega]
 rw [← e]
 exact this.1
theorem rowSl_len (r c a:Nat):(rowSl r c a).length=a:=by simp [rowSl]
theorem rowsSl_len (r c cs d:Nat):(rowsSl r c cs d).length=d * cs:=by
 induction d with
 | zero=>simp [rowsSl]
 | succ d ih=>rw [rowsSl_succ,List.length_append,ih,rowSl_len,Nat.succ_mul]
theorem slotsG_len {R C:Int} {x:GC} (h:fitsB R C x=true) (hR:R≤8) (hC:C≤94):(slotsG x).length≤752:=by
 obtain ⟨e1,e2,e3,e4,h1,h2,h3,h4⟩:=fits_of h
 unfold slotsG
 rw [rowsSl_len]
 have a1:x.rows.toNat≤8:=by omega
 have a2:x.cols.toNat≤94:=by omega
 exact Nat.mul_le_mul a1 a2
theorem takenBy_len {R C:Int} (hR:R≤8) (hC:C≤94):∀ (gs:List GC),(∀ a ∈ gs,fitsB R C a=true)→(takenBy gs).length≤gs.length * 752
 | [],_=>by simp [takenBy]
 | a :: t,h=>by
  have h1:=slotsG_len (h a (by simp)) hR hC
  have h2:=takenBy_len hR hC t (fun b hb=>h b (by simp [hb]))
  simp only [takenBy,List.length_map,List.flatMap_cons,List.length_append,List.length_cons] at h2 ⊢
  omega
end Go.Proofs.Ytggmjiddadjilao
namespace Go.Proofs.Ytggmjiddadjilao
open Go.RowKit

/-- a block of n cells of a type, at B or behind it, whose first k are filled -/
def Fill (w:World) (B g n:Nat) (T:TypeId) (k:Nat) (f:Nat→Value):Prop :=
 B≤g∧∃ cur:Array Value,w.heap[g]?=some (.cells cur T (0,0))∧cur.size=n∧∀ i,i < k→cur[i]?=some (f i)
theorem Fill.lt {w:World} {B g n:Nat} {T:TypeId} {k:Nat} {f:Nat→Value} (h:Fill w B g n T k f):g < w.heap.size:=by
 obtain ⟨_,cur,hg,_⟩:=h
 exact (Array.getElem?_eq_some_iff.1 hg).1
theorem Fill.kept {w w':World} {B g n:Nat} {T:TypeId} {k:Nat} {f:Nat→Value} (h:Fill w B g n T k f) (hb:Below w.heap.size w w'):Fill w' B g n T k f:=by
 have hl:=h.lt
 obtain ⟨hB,cur,hg,r⟩:=h
 exact ⟨hB,cur,(hb.block g hl).trans hg,r⟩
theorem Fill.set {w:World} {B g n:Nat} {T:TypeId} {k:Nat} {f:Nat→Value} (h:Fill w B g n T k f) (hk:k < n):Fill (w.setCell ⟨g,k,none⟩ (f k)) B g n T (k+1) f:=by
 obtain ⟨hB,cur,hg,hs,hf⟩:=h
 refine ⟨hB,cur.setIfInBounds k (f k),setB hg _,by simpa using hs,fun i hi=>?_⟩
 rcases Nat.lt_or_eq_of_le (Nat.lt_succ_iff.1 hi) with hlt | rfl
 ·rw [Array.getElem?_setIfInBounds_ne (by omega)];exact hf i hlt
 ·have eq:∀ (A:Array Value) (i:Nat) (v:Value),i < A.size→(A.setIfInBounds i v)[i]?=some v:=fun A i v hi=>by simp [hi]
  exact eq _ _ _ (by omega)
/-- a cell behind those that are filled is written -/
theorem Fill.over {w:World} {B g n:Nat} {T:TypeId} {k:Nat} {f:Nat→Value} (h:Fill w B g n T k f) {i:Nat} (hi:k≤i) (v:Value):Fill (w.setCell ⟨g,i,none⟩ v) B g n T k f:=by
 obtain ⟨hB,cur,hg,hs,hf⟩:=h
 refine ⟨hB,cur.setIfInBounds i v,setB hg _,by simpa using hs,fun j hj=>?_⟩
 rw [Array.getElem?_setIfInBounds_ne (by omega)]
 exact hf j hj
/-- another cell of another block is written -/
theorem Fill.other {w:World} {B g n:Nat} {T:TypeId} {k:Nat} {f:Nat→Value} (h:Fill w B g n T k f) {p:Addr} (hp:p.block ≠ g) (v:Value):Fill (w.setCell p v) B g n T k f:=by
 obtain ⟨hB,cur,hg,r⟩:=h
 exact ⟨hB,cur,(Below.heap_setCell _ _ _ _ (fun e=>hp e.symm)).trans hg,r⟩
theorem Fill.at' {w:World} {B g n:Nat} {T:TypeId} {k:Nat} {f:Nat→Value} (h:Fill w B g n T k f) {i:Nat} (hi:i < k):w.cell? ⟨g,i,none⟩=some (f i):=by
 obtain ⟨_,cur,hg,_,hf⟩:=h
 exact (cellB hg).trans (hf i hi)
theorem Fill.slot {w:World} {B g n:Nat} {T:TypeId} {k:Nat} {f:Nat→Value} (h:Fill w B g n T k f) {i:Nat} (hi:i < n):(∃ v,w.cell? ⟨g,i,none⟩=some v)∧w.frozen? ⟨g,i,none⟩=false:=by
 obtain ⟨_,cur,hg,hs,_⟩:=h
 exact ⟨someB hg (by omega),freeB hg⟩
theorem Fill.new {w:World} {B n:Nat} {T:TypeId} {f:Nat→Value} {cur:Array Value} (hB:B≤w.heap.size) (hs:cur.size=n):Fill (w.alloc (.cells cur T)) B w.heap.size n T 0 f :=
 ⟨hB,cur,newestB _ _,hs,fun _ hi=>absurd hi (Nat.not_lt_zero _)⟩

/-- a slot's letter, by its cell's number; a dot for none -/
def letB (k:Int):Int:=if k < 0 then 46 else 97+k % 26
theorem letB_neg {k:Int} (h:k < 0):letB k=46:=if_pos h
theorem letB_pos {k:Int} (h:¬ k < 0):letB k=97+k % 26:=if_neg h
theorem letB_ran (k:Int):46≤letB k∧letB k≤122∧(letB k=46 ↔ k < 0):=by
 unfold letB
 split <;> omega
theorem findTo_ran (p:GC→Bool) (gs:List GC):-1≤findTo p gs∧findTo p gs < gs.length+1:=by
 unfold findTo
 split
 ·rename_i k hk
  have:=(List.findIdx?_eq_some_iff_getElem.1 hk).1
  omega
 ·omega
def lineQ (gs:List GC) (C r:Nat):List Int:=(List.range C).map fun c:Nat=>letB (findTo (holdsB (r:Int) (c:Int)) gs)
def lineB (gs:List GC) (C r:Nat):ByteArray:=strOfNums (lineQ gs C r)
/-- how a grid looks -/
def looks (g:G):List ByteArray:=if okB g then (List.range g.rows.toNat).map (lineB g.cells g.cols.toNat) else []
theorem looks_no {g:G} (h:okB g=false):looks g=[]:=by rw [looks,if_neg (by rw [h];simp)]
theorem looks_ok {g:G} (h:okB g=true):looks g=(List.range g.rows.toNat).map (lineB g.cells g.cols.toNat):=by rw [looks,if_pos h]
theorem ok_ran {g:G} (h:okB g=true):1≤g.rows∧g.rows≤8∧1≤g.cols∧g.cols≤94:=by
 have:=h
 simp only [okB,Bool.and_eq_true] at this
 obtain ⟨h1,h2,h3,h4,_⟩:=bounds_of this.1
 exact ⟨h1,h2,h3,h4⟩
theorem line_get (gs:List GC) (C r i:Nat) (hi:i < C):(lineQ gs C r).getD i 0=letB (findTo (holdsB (r:Int) (i:Int)) gs):=by simp [lineQ,List.getD,hi]
/-- bytes that were filled, as a text -/
theorem run_text {w:World} {B g n:Nat} {gs:List GC} {r:Nat} (h:Fill w B g n 5 n (fun i=>.int .u8 (letB (findTo (holdsB (r:Int) (i:Int)) gs)))) :
  (convert 73 9 (.slice (some ⟨g,0,none⟩) n n)).run Try.prog w=.ok (.string (lineB gs n r)) w :=
 run_convert_bytes_arg w 73 5 Try.underlying73 Try.underlying5 g 0 n n (lineQ gs n r) (by simp [lineQ]) (fun i hi=>by rw [Nat.zero_add,h.at' hi,line_get _ _ _ _ hi]) 9 Try.underlying9

def newB (n:Nat):Array Value:=madeCells (Value.int .u8 0).cells (n * 1)
theorem newB_size (n:Nat):(newB n).size=n:=by rw [newB,size_madeCells];omega
theorem infoB8:(Try.prog.info? 5).map (fun i=>(i.zero,i.size,i.bytes))=some (some (Value.int .u8 0),1,1):=by kernel_rfl
theorem makeB (n:Nat) (hn:n≤1048576) (u:World):(Instr.makeSlice 73 (.int .i64 (n:Int)) (.int .i64 (n:Int))).run Try.prog u=.ok (.slice (some ⟨u.heap.size,0,none⟩) n n) (u.alloc (.cells (newB n) 5)):=by
 obtain ⟨i0,hi,hz0,hz1,hz2⟩:=info_parts infoB8
 have h:=run_make (P:=Try.prog) u 73 5 i0 _ Try.underlying73 hi hz0 .i64 .i64 (n:Int) (n:Int) (by omega) (Int.le_refl _) (by rw [hz2];omega) (by omega)
 rw [hz1,Int.toNat_natCast] at h
 exact h
def newT (n:Nat):Array Value:=madeCells (Value.string ⟨#[]⟩).cells (n * 1)
theorem newT_size (n:Nat):(newT n).size=n:=by rw [newT,size_madeCells];omega
theorem infoT:(Try.prog.info? 9).map (fun i=>(i.zero,i.size,i.bytes))=some (some (Value.string ⟨#[]⟩),1,16):=by kernel_rfl
theorem makeT (n:Nat) (hn:n≤1048576) (u:World):(Instr.makeSlice 32 (.int .i64 (n:Int)) (.int .i64 (n:Int))).run Try.prog u=.ok (.slice (some ⟨u.heap.size,0,none⟩) n n) (u.alloc (.cells (newT n) 9)):=by
 obtain ⟨i0,hi,hz0,hz1,hz2⟩:=info_parts infoT
 have h:=run_make (P:=Try.prog) u 32 9 i0 _ Try.underlying32 hi hz0 .i64 .i64 (n:Int) (n:Int) (by omega) (Int.le_refl _) (by rw [hz2];omega) (by omega)
 rw [hz1,Int.toNat_natCast] at h
 exact h
/-- a list of texts that was filled to its end -/
theorem Fill.rowS {w:World} {B g n:Nat} {f:Nat→ByteArray} (h:Fill w B g n 9 n (fun i=>.string (f i))) (hn:n≤maxLen):RowS w B (.slice (some ⟨g,0,none⟩) n n) ((List.range n).map f):=by
 obtain ⟨hB,cur,hg,hs,hf⟩:=h
 refine .inr ⟨g,n,cur,by simp,hB,hg,by simp,hn,hs,fun i hi=>?_⟩
 simp only [List.length_map,List.length_range] at hi
 rw [hf i hi]
 simp [List.getD,hi]

set_option maxHeartbeats 400000 in
theorem letter_any (k:Int) (h1:-1≤k) (h2:k≤9223372036854775807) (w:World) :
  Calls Try.prog 38 #[.int .i64 k] w fun e w'=>e=.returned (.int .u8 (letB k))∧w'=w:=by
 by_cases hk:k < 0
 ·obtain rfl:k=-1:=by omega
  have HF:=Hid.intro (letB_neg hk)
  clear hk
  go_enter Try.func38,Try.ntmps38
  go_wp2
  go_ret
  exact ⟨by rw [HF.out];rfl,rfl⟩
 ·obtain ⟨n,rfl⟩:∃ n:Nat,k=n:=⟨k.toNat,by omega⟩
  have HF:=Hid.intro (letB_pos hk)
  have hm:Int.tmod (n:Int) 26=(n:Int) % 26:=Int.tmod_eq_emod_of_nonneg (by omega)
  go_enter Try.func38,Try.ntmps38
  go_wp2
  go_ret
  exact ⟨by rw [HF.out];rfl,rfl⟩
end Go.Proofs.Ytggmjiddadjilao
namespace Go.Proofs.Ytggmjiddadjilao
open Go.RowKit

set_option maxRecDepth 100000 in
set_option maxHeartbeats 1000000 in
theorem boundsOk_any (R C:Int) (ac:Option Addr) (n cc:Nat) (w:World) :
  Calls Try.prog 98 #[.agg #[.int .i64 R,.int .i64 C,.slice ac n cc]] w fun e w'=>e=.returned (.bool (boundsB R C n))∧Below w.heap.size w w':=by
 cases h1:inB R 1 8 with
 | false =>
  have HE:Hid (boundsB R C n=false):=by simp only [boundsB,h1,Bool.false_and];exact trivial
  have K1:=Hid.intro (within_any R 1 8)
  rw [h1] at K1
  go_enter Try.func98,Try.ntmps98
  go_wp2_with fail
  refine (K1.out _).mono ?_
  rintro e w1 ⟨rfl,rfl⟩
  go_wp2
  go_ret
  exact ⟨retB HE.out.symm,k_alloc (Below.refl _ _) _⟩
 | true =>
  cases h2:inB C 1 94 with
  | false =>
   have HE:Hid (boundsB R C n=false):=by simp only [boundsB,h2,Bool.false_and,Bool.and_false];exact trivial
   have K1:=Hid.intro (within_any R 1 8)
   have K2:=Hid.intro (within_any C 1 94)
   rw [h1] at K1
   rw [h2] at K2
   go_enter Try.func98,Try.ntmps98
   go_wp2_with fail
   refine (K1.out _).mono ?_
   rintro e w1 ⟨rfl,rfl⟩
   go_wp2_with fail
   refine (K2.out _).mono ?_
   rintro e w1 ⟨rfl,rfl⟩
   go_wp2
   go_ret
   exact ⟨retB HE.out.symm,k_alloc (Below.refl _ _) _⟩
  | true =>
   have HE:Hid (boundsB R C n=decide ((n:Int)≤40)):=by
    show boundsB R C n=_
    simp only [boundsB,h1,h2,Bool.true_and]
    exact decide_eq_decide.2 (by omega)
   have K1:=Hid.intro (within_any R 1 8)
   have K2:=Hid.intro (within_any C 1 94)
   rw [h1] at K1
   rw [h2] at K2
   go_enter Try.func98,Try.ntmps98
   go_wp2_with fail
   refine (K1.out _).mono ?_
   rintro e w1 ⟨rfl,rfl⟩
   go_wp2_with fail
   refine (K2.out _).mono ?_
   rintro e w1 ⟨rfl,rfl⟩
   go_wp2
   go_ret
   exact ⟨retB HE.out.symm,k_alloc (Below.refl _ _) _⟩

set_option maxRecDepth 100000 in
set_option maxHeartbeats 2000000 in
theorem cellFits_any (R C:Int) (v:Value) (x:GC) (hx:GOk x) (hR:1≤R∧R≤8) (hC:1≤C∧C≤94) (w:World) :
  Calls Try.prog 99 #[.agg #[.int .i64 R,.int .i64 C,v],.agg #[.int .i64 x.row,.int .i64 x.col,.int .i64 x.rows,.int .i64 x.cols,.int .i64 x.ins]] w fun e w'=>e=.returned (.bool (fitsB R C x))∧Below w.heap.size w w':=by
 obtain ⟨b0,b1,b2,b3,b4⟩:=hx
 unfold I64 at b0 b1 b2 b3 b4
 have K1:=Hid.intro (within_any x.row 0 (R - 1))
 have K2:=Hid.intro (within_any x.rows 1 (R - x.row))
 have K3:=Hid.intro (within_any x.col 0 (C - 1))
 have K4:=Hid.intro (within_any x.cols 1 (C - x.col))
 have K5:=Hid.intro (within_any x.ins 0 4)
 have p1:IntKind.i64.wrap (R - 1)=R - 1:=by rw [IntKind.wrap_i64];omega
 have p3:IntKind.i64.wrap (C - 1)=C - 1:=by rw [IntKind.wrap_i64];omega
 cases h1:inB x.row 0 (R - 1) with
 | false =>
  rw [h1] at K1
  have HE:Hid (fitsB R C x=false):=by
   show fitsB R C x=false
   simp only [fitsB,h1,Bool.false_and]
  go_enter Try.func99,Try.ntmps99
  go_wp2_with fail
  refine (K1.out _).mono ?_
  rintro e w1 ⟨rfl,rfl⟩
  go_wp2
  go_ret
  exact ⟨retB HE.out.symm,k_alloc (k_alloc (Below.refl _ _) _) _⟩
 | true =>
  rw [h1] at K1
  have p2:IntKind.i64.wrap (R - x.row)=R - x.row:=by
   have:=of_decide_eq_true h1
   rw [IntKind.wrap_i64];omega
  cases h2:inB x.rows 1 (R - x.row) with
  | false =>
   rw [h2] at K2
   have HE:Hid (fitsB R C x=false):=by
    show fitsB R C x=false
    simp only [fitsB,h2,Bool.false_and,Bool.and_false]
   go_enter Try.func99,Try.ntmps99
   go_wp2_with fail
   refine (K1.out _).mono ?_
   rintro e w1 ⟨rfl,rfl⟩
   go_wp2_with fail
   refine (K2.out _).mono ?_
   rintro e w1 ⟨rfl,rfl⟩
   go_wp2
   go_ret
   exact ⟨retB HE.out.symm,k_alloc (k_alloc (Below.refl _ _) _) _⟩
  | true =>
   rw [h2] at K2
   cases h3:inB x.col 0 (C - 1) with
   | false =>
    rw [h3] at K3
    have HE:Hid (fitsB R C x=false):=by
     show fitsB R C x=false
     simp only [fitsB,h3,Bool.false_and,Bool.and_false]
    go_enter Try.func99,Try.ntmps99
    go_wp2_with fail
    refine (K1.out _).mono ?_
    rintro e w1 ⟨rfl,rfl⟩
    go_wp2_with fail
    refine (K2.out _).mono ?_
    rintro e w1 ⟨rfl,rfl⟩
    go_wp2_with fail
    refine (K3.out _).mono ?_
    rintro e w1 ⟨rfl,rfl⟩
    go_wp2
    go_ret
    exact ⟨retB HE.out.symm,k_alloc (k_alloc (Below.refl _ _) _) _⟩
   | true =>
    rw [h3] at K3
    have p4:IntKind.i64.wrap (C - x.col)=C - x.col:=by
     have:=of_decide_eq_true h3
     rw [IntKind.wrap_i64];omega
    cases h4:inB x.cols 1 (C - x.col) with
    | false =>
     rw [h4] at K4
     have HE:Hid (fitsB R C x=false):=by
      show fitsB R C x=false
      simp only [fitsB,h4,Bool.false_and,Bool.and_false]
     go_enter Try.func99,Try.ntmps99
     go_wp2_with fail
     refine (K1.out _).mono ?_
     rintro e w1 ⟨rfl,rfl⟩
     go_wp2_with fail
     refine (K2.out _).mono ?_
     rintro e w1 ⟨rfl,rfl⟩
     go_wp2_with fail
     refine (K3.out _).mono ?_
     rintro e w1 ⟨rfl,rfl⟩
     go_wp2_with fail
     refine (K4.out _).mono ?_
     rintro e w1 ⟨rfl,rfl⟩
     go_wp2
     go_ret
     exact ⟨retB HE.out.symm,k_alloc (k_alloc (Below.refl _ _) _) _⟩
    | true =>
     rw [h4] at K4
     cases h5:inB x.ins 0 4 with
     | false =>
      rw [h5] at K5
      have HE:Hid (fitsB R C x=false):=by
       show fitsB R C x=false
       simp only [fitsB,h5,Bool.and_false]
      go_enter Try.func99,Try.ntmps99
      go_wp2_with fail
      refine (K1.out _).mono ?_
      rintro e w1 ⟨rfl,rfl⟩
      go_wp2_with fail
      refine (K2.out _).mono ?_
      rintro e w1 ⟨rfl,rfl⟩
      go_wp2_with fail
      refine (K3.out _).mono ?_
      rintro e w1 ⟨rfl,rfl⟩
      go_wp2_with fail
      refine (K4.out _).mono ?_
      rintro e w1 ⟨rfl,rfl⟩
      go_wp2_with fail
      refine (K5.out _).mono ?_
      rintro e w1 ⟨rfl,rfl⟩
      go_wp2
      go_ret
      exact ⟨retB HE.out.symm,k_alloc (k_alloc (Below.refl _ _) _) _⟩
     | true =>
      rw [h5] at K5
      have HE:Hid (fitsB R C x=true):=by
       show fitsB R C x=true
       simp only [fitsB,h1,h2,h3,h4,h5,Bool.and_self]
      go_enter Try.func99,Try.ntmps99
      go_wp2_with fail
      refine (K1.out _).mono ?_
      rintro e w1 ⟨rfl,rfl⟩
      go_wp2_with fail
      refine (K2.out _).mono ?_
      rintro e w1 ⟨rfl,rfl⟩
      go_wp2_with fail
      refine (K3.out _).mono ?_
      rintro e w1 ⟨rfl,rfl⟩
      go_wp2_with fail
      refine (K4.out _).mono ?_
      rintro e w1 ⟨rfl,rfl⟩
      go_wp2_with fail
      refine (K5.out _).mono ?_
      rintro e w1 ⟨rfl,rfl⟩
      go_wp2
      go_ret
      exact ⟨retB HE.out.symm,k_alloc (k_alloc (Below.refl _ _) _) _⟩
end Go.Proofs.Ytggmjiddadjilao
namespace Go.Proofs.Ytggmjiddadjilao
open Go.RowKit

theorem allFreeG {R C:Int} {x:GC} (hf:fitsB R C x=true) (hR:R≤8) (hC:C≤94) (w:World) (B:Nat) (L:List (Nat × Nat)) (hT:TakAt w B L) :
  Calls Try.prog 100 #[.map (some B),.agg #[.int .i64 x.row,.int .i64 x.col,.int .i64 x.rows,.int .i64 x.cols,.int .i64 x.ins]] w fun e w'=>e=.returned (.bool (freeIn L x.row.toNat x.col.toNat x.rows.toNat x.cols.toNat))∧Below w.heap.size w w':=by
 obtain ⟨e1,e2,e3,e4,h1,h2,h3,h4⟩:=fits_of hf
 have h:=allFree_any x.row.toNat x.col.toNat x.rows.toNat x.cols.toNat x.ins (by omega) (by omega) w B L hT
 unfold gcV at h
 rw [← e1,← e2,← e3,← e4] at h
 exact h
theorem takeG {R C:Int} {x:GC} (hf:fitsB R C x=true) (hR:R≤8) (hC:C≤94) (w:World) (B:Nat) (L:List (Nat × Nat)) (hT:TakAt w B L) (hL:L.length≤40 * 752) :
  Calls Try.prog 101 #[.map (some B),.agg #[.int .i64 x.row,.int .i64 x.col,.int .i64 x.rows,.int .i64 x.cols,.int .i64 x.ins]] w fun e w'=>(∃ v,e=.returned v)∧TakAt w' B (L ++ (slotsG x).map (·.1))∧w.grownBy w' (some B):=by
 have hl:=slotsG_len hf hR hC
 obtain ⟨e1,e2,e3,e4,h1,h2,h3,h4⟩:=fits_of hf
 have h:=take_any x.row.toNat x.col.toNat x.rows.toNat x.cols.toNat x.ins (by omega) (by omega) w B L hT (by show _+(slotsG x).length < _;omega)
 unfold gcV at h
 rw [← e1,← e2,← e3,← e4] at h
 exact h
end Go.Proofs.Ytggmjiddadjilao
