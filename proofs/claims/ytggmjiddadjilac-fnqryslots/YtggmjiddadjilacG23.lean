/-
  PROVED HERE: DrawQrySlots draws a grid; nothing that was in memory is turned. Also: a row that is filled, cell by cell; letters of slots; how a grid looks. Also: what the program's QrySlots answers: how a grid looks, in new memory; nothing that was in memory is turned. Also: what the model's QrySlots answers: how a grid looks, in new memory; nothing that was in memory is turned.
-/
import Derived.Test.YtggmjiddadjilacG22
import Derived.Test.YtggmjiddadjilacG21
import Derived.Test.YtggmjiddadjilacG16
import Derived.Test.YtggmjiddadjilacG6
import Derived.Test.YtggmjiddadjilacG15
import Derived.Test.YtggmjiddadjilacG17
import Derived.Laws.MakeOwn
import Derived.Laws.BytesArg
import Derived.WalkLawsBesides
namespace Go.Proofs.Ytggmjiddadjilac
open Go.RowKit

set_option maxRecDepth 100000 in
set_option maxHeartbeats 1000000 in
theorem dQrySlots_any (a:Option Addr) (len cap:Nat) (w:World) (h:IsCode w a len cap) :
  Calls Try.prog 22 #[.slice a len cap] w fun e w'=>GrdPost w e w':=by
 have K0:=k_alloc (Below.refl w.heap.size w) (.cells #[.int .i64 0,.int .i64 0,.slice none 0 0] 25)
 have HC:=Hid.intro (code_kept h K0)
 have X0:=newestB w (.cells #[.int .i64 0,.int .i64 0,.slice none 0 0] 25)
 clear h
 have hsz:(w.alloc (.cells #[.int .i64 0,.int .i64 0,.slice none 0 0] 25)).heap.size=w.heap.size+1:=by simp
 go_enter Try.func22,Try.ntmps22
 go_wp2_with fail
 refine (open_any _ _ _ _ HC.out).mono ?_
 rintro e w1 ⟨rfl,hR1,hb1⟩
 rw [hsz] at hR1 hb1
 have X1:=(hb1.block w.heap.size (by omega)).trans X0
 have K1:=k_trans K0 (by rw [hsz];exact hb1)
 have hz1:=hR1.lt
 go_wp2_with fail
 refine (l20Grid_any (w.heap.size+1) 0 8 (by omega) _ hR1 (by omega)).mono ?_
 rintro e w2 ⟨va,vq,g,rfl,hG,hIr,hIc,hlen,hR2,hb2,h99⟩
 have X2:=(hb2.block w.heap.size (by omega) (by omega)).trans X1
 have K2:=K1.trans (hb2.below (by omega) (by omega))
 have hz2:w.heap.size+1 < w2.heap.size:=hR2.lt
 have HP:=Hid.intro (grd_post hG (by omega) (by omega) K2 hIr hIc hlen)
 obtain ⟨⟨x0,x1,x2⟩,y0,y1,y2⟩:=threeZ X2
 clear h99 hG hR2 hb2 X2 X1 X0 K0 K1 K2 HC hR1 hb1
 go_wp2
 exact bodyPost_ret (v:=.agg #[.int .i64 g.rows,.int .i64 g.cols,.slice va g.cells.length vq]) (by simp [results,Try.results22,go_sem,x0,x1,x2]) rfl HP.out
end Go.Proofs.Ytggmjiddadjilac
namespace Go.Proofs.Ytggmjiddadjilac
open Go.RowKit

/-- a block of n cells of a type, at B or behind it, whose first k are filled -/
def Fill (w:World) (B g n:Nat) (T:TypeId) (k:Nat) (f:Nat→Value):Prop :=
 B≤g∧∃ cur:Array Value,w.heap[g]?=some (.cells cur T (0,0))∧cur.size=n∧∀ i,i < k→cur[i]?=some (f i)
theorem Fill.lt {w:World} {B g n:Nat} {T:TypeId} {k:Nat} {f:Nat→Value} (h:Fill w B g n T k f):g < w.heap.size:=by
 obtain ⟨_,cur,hg,_⟩:=h
 exact (Array.getElem?_eq_some_iff.1 hg).1
theorem Fill.kept {w w':World} {B g n:Nat} {T:TypeId} {k:Nat} {f:Nat→Value} (h:Fill w B g n T k f) (hb:Below w.heap.size w w'):Fill w' B g n T k f:=by
 have hl:=h.lt
 obtain ⟨hB,cur,hg,r⟩:=h
 exact ⟨hB,cur,(hb.block g hl).trans hg,r⟩
theorem Fill.set {w:World} {B g n:Nat} {T:TypeId} {k:Nat} {f:Nat→Value} (h:Fill w B g n T k f) (hk:k < n):Fill (w.setCell ⟨g,k,none⟩ (f k)) B g n T (k+1) f:=by
 obtain ⟨hB,cur,hg,hs,hf⟩:=h
 refine ⟨hB,cur.setIfInBounds k (f k),setB hg _,by simpa using hs,fun i hi=>?_⟩
 rcases Nat.lt_or_eq_of_le (Nat.lt_succ_iff.1 hi) with hlt | rfl
 ·rw [Array.getElem?_setIfInBounds_ne (by omega)];exact hf i hlt
 ·have eq:∀ (A:Array Value) (i:Nat) (v:Value),i < A.size→(A.setIfInBounds i v)[i]?=some v:=fun A i v hi=>by simp [hi]
  exact eq _ _ _ (by omega)
/-- a cell behind those that are filled is written -/
theorem Fill.over {w:World} {B g n:Nat} {T:TypeId} {k:Nat} {f:Nat→Value} (h:Fill w B g n T k f) {i:Nat} (hi:k≤i) (v:Value):Fill (w.setCell ⟨g,i,none⟩ v) B g n T k f:=by
 obtain ⟨hB,cur,hg,hs,hf⟩:=h
 refine ⟨hB,cur.setIfInBounds i v,setB hg _,by simpa using hs,fun j hj=>?_⟩
 rw [Array.getElem?_setIfInBounds_ne (by omega)]
 exact hf j hj
/-- another cell of another block is written -/
theorem Fill.other {w:World} {B g n:Nat} {T:TypeId} {k:Nat} {f:Nat→Value} (h:Fill w B g n T k f) {p:Addr} (hp:p.block ≠ g) (v:Value):Fill (w.setCell p v) B g n T k f:=by
 obtain ⟨hB,cur,hg,r⟩:=h
 exact ⟨hB,cur,(Below.heap_setCell _ _ _ _ (fun e=>hp e.symm)).trans hg,r⟩
theorem Fill.at' {w:World} {B g n:Nat} {T:TypeId} {k:Nat} {f:Nat→Value} (h:Fill w B g n T k f) {i:Nat} (hi:i < k):w.cell? ⟨g,i,none⟩=some (f i):=by
 obtain ⟨_,cur,hg,_,hf⟩:=h
 exact (cellB hg).trans (hf i hi)
theorem Fill.slot {w:World} {B g n:Nat} {T:TypeId} {k:Nat} {f:Nat→Value} (h:Fill w B g n T k f) {i:Nat} (hi:i < n):(∃ v,w.cell? ⟨g,i,none⟩=some v)∧w.frozen? ⟨g,i,none⟩=false:=by
 obtain ⟨_,cur,hg,hs,_⟩:=h
 exact ⟨someB hg (by omega),freeB hg⟩
theorem Fill.new {w:World} {B n:Nat} {T:TypeId} {f:Nat→Value} {cur:Array Value} (hB:B≤w.heap.size) (hs:cur.size=n):Fill (w.alloc (.cells cur T)) B w.heap.size n T 0 f :=
 ⟨hB,cur,newestB _ _,hs,fun _ hi=>absurd hi (Nat.not_lt_zero _)⟩

/-- a slot's letter, by its cell's number; a dot for none -/
def letB (k:Int):Int:=if k < 0 then 46 else 97+k % 26
theorem letB_neg {k:Int} (h:k < 0):letB k=46:=if_pos h
theorem letB_pos {k:Int} (h:¬ k < 0):letB k=97+k % 26:=if_neg h
theorem letB_ran (k:Int):46≤letB k∧letB k≤122∧(letB k=46 ↔ k < 0):=by
 unfold letB
 split <;> omega
theorem findTo_ran (p:GC→Bool) (gs:List GC):-1≤findTo p gs∧findTo p gs < gs.length+1:=by
 unfold findTo
 split
 ·rename_i k hk
  have:=(List.findIdx?_eq_some_iff_getElem.1 hk).1
  omega
 ·omega
def lineQ (gs:List GC) (C r:Nat):List Int:=(List.range C).map fun c:Nat=>letB (findTo (holdsB (r:Int) (c:Int)) gs)
def lineB (gs:List GC) (C r:Nat):ByteArray:=strOfNums (lineQ gs C r)
theorem lineB_size (gs:List GC) (C r:Nat):(lineB gs C r).size=C:=by simp [lineB,strOfNums_size,lineQ]
/-- how a grid looks -/
def looks (g:G):List ByteArray:=if okB g then (List.range g.rows.toNat).map (lineB g.cells g.cols.toNat) else []
theorem looks_no {g:G} (h:okB g=false):looks g=[]:=by rw [looks,if_neg (by rw [h];simp)]
theorem looks_ok {g:G} (h:okB g=true):looks g=(List.range g.rows.toNat).map (lineB g.cells g.cols.toNat):=by rw [looks,if_pos h]
theorem ok_ran {g:G} (h:okB g=true):1≤g.rows∧g.rows≤8∧1≤g.cols∧g.cols≤94:=by
 have:=h
 simp only [okB,Bool.and_eq_true] at this
 obtain ⟨h1,h2,h3,h4,_⟩:=bounds_of this.1
 exact ⟨h1,h2,h3,h4⟩
theorem line_get (gs:List GC) (C r i:Nat) (hi:i < C):(lineQ gs C r).getD i 0=letB (findTo (holdsB (r:Int) (i:Int)) gs):=by simp [lineQ,List.getD,hi]
/-- the byte of a line at a place -/
theorem line_byte (gs:List GC) (C r i:Nat) (hi:i < C):(lineB gs C r).data[i]?=some (UInt8.ofNat (letB (findTo (holdsB (r:Int) (i:Int)) gs)).toNat):=by
 simp [lineB,strOfNums,lineQ,hi]
theorem line_at {gs:List GC} {C r i:Nat} (hi:i < (lineB gs C r).size):(((lineB gs C r)[i].toNat:Nat):Int)=letB (findTo (holdsB (r:Int) (i:Int)) gs):=by
 have hC:i < C:=by rwa [lineB_size] at hi
 have h:=line_byte gs C r i hC
 have e:(lineB gs C r).data[i]?=some (lineB gs C r)[i]:=Array.getElem?_eq_getElem hi
 rw [e] at h
 have h':=Option.some.inj h
 rw [h']
 obtain ⟨h1,h2,_⟩:=letB_ran (findTo (holdsB (r:Int) (i:Int)) gs)
 rw [UInt8.toNat_ofNat']
 omega
theorem line_dot {gs:List GC} {C r i:Nat} (hi:i < (lineB gs C r).size):((((lineB gs C r)[i].toNat:Nat):Int) == 46)=decide (findTo (holdsB (r:Int) (i:Int)) gs < 0):=by
 rw [line_at hi,Bool.eq_iff_iff]
 simp [(letB_ran (findTo (holdsB (r:Int) (i:Int)) gs)).2.2]
theorem looks_get {gs:List GC} {R C r:Nat} (hr:r < R):((List.range R).map (lineB gs C)).getD r eS=lineB gs C r:=by simp [List.getD,hr]
/-- bytes that were filled, as a text -/
theorem run_text {w:World} {B g n:Nat} {gs:List GC} {r:Nat} (h:Fill w B g n 5 n (fun i=>.int .u8 (letB (findTo (holdsB (r:Int) (i:Int)) gs)))) :
  (convert 22 9 (.slice (some ⟨g,0,none⟩) n n)).run Try.prog w=.ok (.string (lineB gs n r)) w :=
 run_convert_bytes_arg w 22 5 Try.underlying22 Try.underlying5 g 0 n n (lineQ gs n r) (by simp [lineQ]) (fun i hi=>by rw [Nat.zero_add,h.at' hi,line_get _ _ _ _ hi]) 9 Try.underlying9

def newB (n:Nat):Array Value:=madeCells (Value.int .u8 0).cells (n * 1)
theorem newB_size (n:Nat):(newB n).size=n:=by rw [newB,size_madeCells];omega
theorem infoB8:(Try.prog.info? 5).map (fun i=>(i.zero,i.size,i.bytes))=some (some (Value.int .u8 0),1,1):=by kernel_rfl
theorem makeB (n:Nat) (hn:n≤1048576) (u:World):(Instr.makeSlice 22 (.int .i64 (n:Int)) (.int .i64 (n:Int))).run Try.prog u=.ok (.slice (some ⟨u.heap.size,0,none⟩) n n) (u.alloc (.cells (newB n) 5)):=by
 obtain ⟨i0,hi,hz0,hz1,hz2⟩:=info_parts infoB8
 have h:=run_make (P:=Try.prog) u 22 5 i0 _ Try.underlying22 hi hz0 .i64 .i64 (n:Int) (n:Int) (by omega) (Int.le_refl _) (by rw [hz2];omega) (by omega)
 rw [hz1,Int.toNat_natCast] at h
 exact h
def newT (n:Nat):Array Value:=madeCells (Value.string ⟨#[]⟩).cells (n * 1)
theorem newT_size (n:Nat):(newT n).size=n:=by rw [newT,size_madeCells];omega
theorem infoT:(Try.prog.info? 9).map (fun i=>(i.zero,i.size,i.bytes))=some (some (Value.string ⟨#[]⟩),1,16):=by kernel_rfl
theorem makeT (n:Nat) (hn:n≤1048576) (u:World):(Instr.makeSlice 39 (.int .i64 (n:Int)) (.int .i64 (n:Int))).run Try.prog u=.ok (.slice (some ⟨u.heap.size,0,none⟩) n n) (u.alloc (.cells (newT n) 9)):=by
 obtain ⟨i0,hi,hz0,hz1,hz2⟩:=info_parts infoT
 have h:=run_make (P:=Try.prog) u 39 9 i0 _ Try.underlying39 hi hz0 .i64 .i64 (n:Int) (n:Int) (by omega) (Int.le_refl _) (by rw [hz2];omega) (by omega)
 rw [hz1,Int.toNat_natCast] at h
 exact h
/-- a list of texts that was filled to its end -/
theorem Fill.rowS {w:World} {B g n:Nat} {f:Nat→ByteArray} (h:Fill w B g n 9 n (fun i=>.string (f i))) (hn:n≤maxLen):RowS w B (.slice (some ⟨g,0,none⟩) n n) ((List.range n).map f):=by
 obtain ⟨hB,cur,hg,hs,hf⟩:=h
 refine .inr ⟨g,n,cur,by simp,hB,hg,by simp,hn,hs,fun i hi=>?_⟩
 simp only [List.length_map,List.length_range] at hi
 rw [hf i hi]
 simp [List.getD,hi]

set_option maxHeartbeats 400000 in
theorem letter_any (k:Int) (h1:-1≤k) (h2:k≤9223372036854775807) (w:World) :
  Calls Try.prog 42 #[.int .i64 k] w fun e w'=>e=.returned (.int .u8 (letB k))∧w'=w:=by
 by_cases hk:k < 0
 ·obtain rfl:k=-1:=by omega
  have HF:=Hid.intro (letB_neg hk)
  clear hk
  go_enter Try.func42,Try.ntmps42
  go_wp2
  go_ret
  exact ⟨by rw [HF.out];rfl,rfl⟩
 ·obtain ⟨n,rfl⟩:∃ n:Nat,k=n:=⟨k.toNat,by omega⟩
  have HF:=Hid.intro (letB_pos hk)
  have hm:Int.tmod (n:Int) 26=(n:Int) % 26:=Int.tmod_eq_emod_of_nonneg (by omega)
  go_enter Try.func42,Try.ntmps42
  go_wp2
  go_ret
  exact ⟨by rw [HF.out];rfl,rfl⟩
end Go.Proofs.Ytggmjiddadjilac
namespace Go.Proofs.Ytggmjiddadjilac
open Go.RowKit

def qsObj (R C:Int) (ac:Option Addr) (n cc:Nat):Obj:=.cells #[.int .i64 R,.int .i64 C,.slice ac n cc] 25
/-- the call's own grid, and what was in memory, all along the call -/
structure QW (w:World) (R C:Int) (ac:Option Addr) (n cc:Nat) (W:World):Prop where
 below:Below w.heap.size w W
 box:W.heap[w.heap.size]?=some (qsObj R C ac n cc)
theorem QW.kept {w W W':World} {R C:Int} {ac:Option Addr} {n cc:Nat} (h:QW w R C ac n cc W) (k:Below W.heap.size W W'):QW w R C ac n cc W' :=
 ⟨k_trans h.below k,(k.block _ (Array.getElem?_eq_some_iff.1 h.box).1).trans h.box⟩
theorem QW.set {w W:World} {R C:Int} {ac:Option Addr} {n cc:Nat} (h:QW w R C ac n cc W) {p:Addr} (hp:w.heap.size < p.block) (v:Value):QW w R C ac n cc (W.setCell p v) :=
 ⟨k_set h.below (Nat.le_of_lt hp) v,(Below.heap_setCell _ _ _ _ (by omega)).trans h.box⟩
theorem QW.cells {w W:World} {R C:Int} {ac:Option Addr} {n cc:Nat} (h:QW w R C ac n cc W):W.cell? ⟨w.heap.size,0,none⟩=some (.int .i64 R)∧W.cell? ⟨w.heap.size,1,none⟩=some (.int .i64 C)∧W.cell? ⟨w.heap.size,2,none⟩=some (.slice ac n cc) :=
 ⟨cellB h.box,cellB h.box,cellB h.box⟩
theorem QW.lt {w W:World} {R C:Int} {ac:Option Addr} {n cc:Nat} (h:QW w R C ac n cc W):w.heap.size < W.heap.size:=(Array.getElem?_eq_some_iff.1 h.box).1
theorem QW.new (w:World) (R C:Int) (ac:Option Addr) (n cc:Nat):QW w R C ac n cc (w.alloc (qsObj R C ac n cc)):=⟨k_alloc (Below.refl _ _) _,newestB _ _⟩
theorem below_new (W:World) (o:Obj):Below W.heap.size W (W.alloc o):=k_alloc (Below.refl _ _) o

set_option maxRecDepth 100000 in
set_option maxHeartbeats 1000000 in
theorem implQrySlots (R C:Int) (ac:Option Addr) (cc:Nat) (gs:List GC) (w:World) {z:Nat} (h:GsAt w z (.slice ac gs.length cc) gs) :
  Calls Try.prog 23 #[.agg #[.int .i64 R,.int .i64 C,.slice ac gs.length cc]] w fun e w'=>∃ v,e=.returned v∧RowS w' w.heap.size v (looks ⟨R,C,gs⟩)∧Below w.heap.size w w':=by
 have Q0:=Hid.intro (QW.new w R C ac gs.length cc)
 have H:=Hid.intro h
 have KO:=Hid.intro (implGrdOk R C ac cc gs _ (h.kept Q0.out.below))
 obtain ⟨_,_,_,hlen⟩:=At.form h
 unfold maxLen at hlen
 clear h
 cases hok:okB ⟨R,C,gs⟩ with
 | false =>
  rw [hok] at KO
  have HF:=Hid.intro (looks_no hok)
  clear hok
  go_enter Try.func23,Try.ntmps23
  go_wp2_with fail
  refine KO.out.mono ?_
  rintro e w1 ⟨rfl,hb1⟩
  have Q1:=Hid.intro (Q0.out.kept hb1)
  clear hb1 KO Q0
  go_wp2
  go_ret
  exact ⟨_,rfl,by rw [HF.out];exact .inl ⟨rfl,rfl⟩,Q1.out.below⟩
 | true =>
  rw [hok] at KO
  have hF:=looks_ok hok
  obtain ⟨hr1,hr8,hc1,hc94⟩:=ok_ran hok
  clear hok
  simp only at hr1 hr8 hc1 hc94 hF
  obtain ⟨m,rfl⟩:∃ m:Nat,R=m:=⟨R.toNat,by omega⟩
  obtain ⟨n,rfl⟩:∃ n:Nat,C=n:=⟨C.toNat,by omega⟩
  rw [Int.toNat_natCast,Int.toNat_natCast] at hF
  have HF:=Hid.intro hF
  have hm8:m≤8:=by omega
  have hn94:n≤94:=by omega
  clear hF hr1 hr8 hc1 hc94
  have hmT:=makeT m (by omega)
  have hmB:=makeB n (by omega)
  go_enter Try.func23,Try.ntmps23
  go_wp2_with fail
  refine KO.out.mono ?_
  rintro e w1 ⟨rfl,hb1⟩
  have Q1:=Hid.intro (Q0.out.kept hb1)
  have hs1:=Q1.out.lt
  clear hb1 KO Q0
  obtain ⟨q0,q1,q2⟩:=Q1.out.cells
  have F1:=Hid.intro (Fill.new (B:=w.heap.size+1) (T:=9) (f:=fun i=>.string (lineB gs n i)) (w:=w1) (by omega) (newT_size m))
  have Q2:=Hid.intro (Q1.out.kept (below_new w1 (.cells (newT m) 9)))
  go_wp2_with fail
  clear q0 q1 q2 Q1 hs1
  generalize w1.heap.size=sb at F1 ⊢
  go_loopw [15] (fun i W=>∃ r:Nat,r≤m∧i=.int .i64 r∧Hid (Fill W (w.heap.size+1) sb m 9 r (fun i=>.string (lineB gs n i)))∧Hid (QW w m n ac gs.length cc W)) (fun i _=>m - (intOf i).toNat)
  case atStart=>exact ⟨0,Nat.zero_le _,rfl,F1,Q2⟩
  case round =>
   clear F1 Q2
   obtain ⟨r,hr,rfl,F,Q⟩:=hrel
   by_cases hlt:r < m
   case neg =>
    obtain rfl:r=m:=by omega
    have HR:=Hid.intro (F.out.rowS (by unfold maxLen;omega))
    go_wp2
    go_ret
    exact ⟨_,rfl,by rw [HF.out];exact HR.out.base (by omega),Q.out.below⟩
   obtain ⟨q0,q1,q2⟩:=Q.out.cells
   have hs:=Q.out.lt
   have G1:=Hid.intro (Fill.new (B:=w.heap.size+1) (T:=5) (f:=fun i=>.int .u8 (letB (findTo (holdsB (r:Int) (i:Int)) gs))) (w:=wr) (by omega) (newB_size n))
   have hne:sb < wr.heap.size:=F.out.lt
   have F2:=Hid.intro (F.out.kept (below_new wr (.cells (newB n) 5)))
   have Q2:=Hid.intro (Q.out.kept (below_new wr (.cells (newB n) 5)))
   go_wp2_with fail
   clear q0 q1 q2 F Q hs
   generalize wr.heap.size=bb at G1 hne ⊢
   go_loopw [23] (fun j W=>∃ c:Nat,c≤n∧j=.int .i64 c∧Hid (Fill W (w.heap.size+1) bb n 5 c (fun i=>.int .u8 (letB (findTo (holdsB (r:Int) (i:Int)) gs))))∧Hid (Fill W (w.heap.size+1) sb m 9 r (fun i=>.string (lineB gs n i)))∧Hid (QW w m n ac gs.length cc W)) (fun j _=>n - (intOf j).toNat)
   case atStart=>exact ⟨0,Nat.zero_le _,rfl,G1,F2,Q2⟩
   case round =>
    clear G1 F2 Q2
    obtain ⟨c,hc,rfl,G,F,Q⟩:=hrel
    by_cases hlc:c < n
    case neg =>
     obtain rfl:c=n:=by omega
     obtain ⟨⟨v0,hv0⟩,hf0⟩:=F.out.slot hlt
     have hT:=run_text G.out
     have F3:=Hid.intro (F.out.set hlt)
     have Q3:=Hid.intro (Q.out.set (p:=⟨sb,r,none⟩) (by have:=F.out.1;show _ < sb;omega) (.string (lineB gs c r)))
     go_wp2
     go_roundw
     case rel=>exact ⟨r+1,by omega,by go_num,F3,Q3⟩
     case measure=>simp [intOf];omega
    obtain ⟨q0,q1,q2⟩:=Q.out.cells
    have KA:=Hid.intro (implGrdAt m n ac cc gs (r:Int) (c:Int) (by unfold I64;omega) (by unfold I64;omega) _ (H.out.kept Q.out.below))
    obtain ⟨hk1,hk2⟩:=findTo_ran (holdsB (r:Int) (c:Int)) gs
    have KL:=Hid.intro (fun W=>letter_any _ hk1 (by omega) W)
    have G2:=Hid.intro (fun (W:World) (hb:Below wr.heap.size wr W)=>(G.out.kept hb).set hlc)
    have hl:=letB_ran (findTo (holdsB (r:Int) (c:Int)) gs)
    generalize letB (findTo (holdsB (r:Int) (c:Int)) gs)=y at G2 KL hl
    generalize findTo (holdsB (r:Int) (c:Int)) gs=k at KA KL hk1 hk2 hl
    go_wp2_with fail
    refine KA.out.mono ?_
    rintro e W5 ⟨rfl,hb5⟩
    go_wp2_with fail
    refine (KL.out _).mono ?_
    rintro e W6 ⟨rfl,rfl⟩
    have G5:=Hid.intro (G.out.kept hb5)
    have F5:=Hid.intro (F.out.kept hb5)
    have Q5:=Hid.intro (Q.out.kept hb5)
    obtain ⟨⟨v0,hv0⟩,hf0⟩:=G5.out.slot hlc
    have G3:=Hid.intro (G2.out _ hb5)
    have F3:=Hid.intro (F5.out.other (p:=⟨bb,c,none⟩) (by show bb ≠ sb;omega) (.int .u8 y))
    have Q3:=Hid.intro (Q5.out.set (p:=⟨bb,c,none⟩) (by have:=G5.out.1;show _ < bb;omega) (.int .u8 y))
    clear hb5 KA KL G2 G F Q G5 F5 Q5 q0 q1 q2
    go_wp2
    go_roundw
    case rel=>exact ⟨c+1,by omega,by go_num,G3,F3,Q3⟩
    case measure=>simp [intOf];omega
end Go.Proofs.Ytggmjiddadjilac
namespace Go.Proofs.Ytggmjiddadjilac
open Go.RowKit

theorem rowS_owns {w:World} {B:Nat} {v:Value} {l:List ByteArray} (h:RowS w B v l):w.ownsRow B 9 1 v l.length (l.map Value.string):=by
 refine ⟨by simp,?_⟩
 rcases h with ⟨hv,rfl⟩ | ⟨g,cap,cur,hv,hb,hg,h1,h2,h3,h4⟩
 ·exact Or.inl ⟨hv,rfl⟩
 ·refine Or.inr ⟨g,cap,cur,hv,hb,hg,h1,h2,by omega,?_⟩
  apply List.ext_getElem?
  intro i
  rw [Nat.mul_one]
  by_cases hi:i < l.length
  ·rw [List.getElem?_take_of_lt hi,Array.getElem?_toList,h4 i hi]
   simp [List.getD,hi]
  ·rw [List.getElem?_eq_none (by simp;omega),List.getElem?_eq_none (by simp;omega)]
theorem row_next {w:World} {B:Nat} {v:Value} {f:Nat→ByteArray} {r:Nat} (h:w.ownsRow B 9 1 v (r+1) ((List.range r).map (fun i=>Value.string (f i)) ++ [.string (f r)])):RowS w B v ((List.range (r+1)).map f):=by
 refine RowS.of_owns ?_
 rw [List.length_map,List.length_range,List.range_succ,List.map_map,List.map_append]
 exact h

set_option maxRecDepth 100000 in
set_option maxHeartbeats 1000000 in
theorem specQrySlots (R C:Int) (ac:Option Addr) (cc:Nat) (gs:List GC) (w:World) {z:Nat} (h:GsAt w z (.slice ac gs.length cc) gs) :
  Calls Try.prog 25 #[.agg #[.int .i64 R,.int .i64 C,.slice ac gs.length cc]] w fun e w'=>∃ v,e=.returned v∧RowS w' w.heap.size v (looks ⟨R,C,gs⟩)∧Below w.heap.size w w':=by
 obtain ⟨i0,hi,hz0,hz1,hz2⟩:=info_parts infoT
 have Q0:=Hid.intro ((QW.new w R C ac gs.length cc).kept (below_new _ (.cells #[] 9)))
 have H:=Hid.intro h
 have KO:=Hid.intro (specGrdOk R C ac cc gs _ (h.kept Q0.out.below))
 have R0:Hid (RowS ((w.alloc (qsObj R C ac gs.length cc)).alloc (.cells #[] 9)) (w.heap.size+1) (.slice (some ⟨w.heap.size+1,0,none⟩) 0 0) []):=Hid.intro (RowS.of_owns (by
  have:=World.ownsRow_made (w.alloc (qsObj R C ac gs.length cc)) (e:=9) (size:=1) #[] 0 (Nat.le_refl _) (Nat.zero_le _) rfl
  simpa using this))
 obtain ⟨_,_,_,hlen⟩:=At.form h
 unfold maxLen at hlen
 clear h
 cases hok:okB ⟨R,C,gs⟩ with
 | false =>
  rw [hok] at KO
  have HF:=Hid.intro (looks_no hok)
  clear hok
  go_enter Try.func25,Try.ntmps25
  go_wp2_with fail
  refine KO.out.mono ?_
  rintro e w1 ⟨rfl,hb1⟩
  have Q1:=Hid.intro (Q0.out.kept hb1)
  have R1:=Hid.intro (R0.out.below hb1 (Nat.le_refl _))
  clear hb1 KO Q0 R0
  go_wp2
  go_ret
  exact ⟨_,rfl,by rw [HF.out];exact R1.out.base (by omega),Q1.out.below⟩
 | true =>
  rw [hok] at KO
  have hF:=looks_ok hok
  obtain ⟨hr1,hr8,hc1,hc94⟩:=ok_ran hok
  clear hok
  simp only at hr1 hr8 hc1 hc94 hF
  obtain ⟨m,rfl⟩:∃ m:Nat,R=m:=⟨R.toNat,by omega⟩
  obtain ⟨n,rfl⟩:∃ n:Nat,C=n:=⟨C.toNat,by omega⟩
  rw [Int.toNat_natCast,Int.toNat_natCast] at hF
  have HF:=Hid.intro hF
  have hm8:m≤8:=by omega
  have hn94:n≤94:=by omega
  clear hF hr1 hr8 hc1 hc94
  have hmB:=makeB n (by omega)
  go_enter Try.func25,Try.ntmps25
  go_wp2_with fail
  refine KO.out.mono ?_
  rintro e w1 ⟨rfl,hb1⟩
  have Q1:=Hid.intro (Q0.out.kept hb1)
  have R1:=Hid.intro (R0.out.below hb1 (Nat.le_refl _))
  clear hb1 KO Q0 R0
  go_wp2_with fail
  go_loopw [3,4] (fun o i W=>∃ r:Nat,r≤m∧i=.int .i64 r∧Hid (RowS W (w.heap.size+1) o ((List.range r).map (lineB gs n)))∧Hid (QW w m n ac gs.length cc W)) (fun _ i _=>m - (intOf i).toNat)
  case atStart=>exact ⟨0,Nat.zero_le _,rfl,R1,Q1⟩
  case round =>
   clear R1 Q1
   obtain ⟨r,hr,rfl,F,Q⟩:=hrel
   obtain ⟨q0,q1,q2⟩:=Q.out.cells
   obtain ⟨ao,co,rfl⟩:=F.out.form
   rw [List.length_map,List.length_range] at F ⊢
   by_cases hlt:r < m
   case neg =>
    obtain rfl:r=m:=by omega
    go_wp2
    go_ret
    exact ⟨_,rfl,by rw [HF.out];exact F.out.base (by omega),Q.out.below⟩
   have hs:=Q.out.lt
   have G1:=Hid.intro (Fill.new (B:=w.heap.size+1) (T:=5) (f:=fun i=>.int .u8 (letB (findTo (holdsB (r:Int) (i:Int)) gs))) (w:=wr) (by omega) (newB_size n))
   have B1:=Hid.intro (below_new wr (.cells (newB n) 5))
   go_wp2_with fail
   clear q0 q1 q2 hs
   generalize hbb:wr.heap.size=bb at G1 ⊢
   go_loopw [6] (fun j W=>∃ c:Nat,c≤n∧j=.int .i64 c∧Hid (Fill W (w.heap.size+1) bb n 5 c (fun i=>.int .u8 (letB (findTo (holdsB (r:Int) (i:Int)) gs))))∧Hid (Below wr.heap.size wr W)) (fun j _=>n - (intOf j).toNat)
   case atStart=>exact ⟨0,Nat.zero_le _,rfl,G1,B1⟩
   case round =>
    clear G1 B1
    obtain ⟨c,hc,rfl,G,B⟩:=hrel
    have hbb':=Nat.le_of_eq hbb
    have HBB:=Hid.intro hbb
    clear hbb
    have Q2:=Hid.intro (Q.out.kept B.out)
    have F2:=Hid.intro (F.out.below B.out (Nat.le_refl _))
    obtain ⟨q0,q1,q2⟩:=Q2.out.cells
    by_cases hlc:c < n
    case neg =>
     obtain rfl:c=n:=by omega
     have hT:=run_text G.out
     have hO:=rowS_owns F2.out
     rw [List.length_map,List.length_range,List.map_map] at hO
     have Q2s:=Q2.out.lt
     go_wp2_with (at_builtin;refine wpList_append_own _ rfl _ _ 39 rfl (w.heap.size+1) 9 i0 (.string ⟨#[]⟩) 1 16 Try.underlying39 hi hz0 hz1 hz2 rfl (by decide) _ _ _ rfl (hO.alloc _) ⟨wr.heap.size,0,none⟩ 1 1 [.string (lineB gs c r)] rfl rfl ?c1 ?c2 ?c3 ?c4 ?c5 ?_)
     case c1=>exact cell_one_new wr (.string (lineB gs c r)) 9
     case c2=>intro u hu;simp at hu;subst hu;rfl
     case c3=>unfold maxLen;omega
     case c4=>omega
     case c5=>simp;omega
     intro v' w2 hown' hgrow' _
     have Q3:Hid (QW w m c ac gs.length cc w2):=by
      have k1:=(k_alloc (Below.refl (wr.heap.size) wr) (.cells #[.string (lineB gs c r)] 9))
      have q4:=Q2.out.kept k1
      exact ⟨q4.below.grown hgrow' (by have:=q4.lt;omega) (fun b hb=>by have:=(hO.lt b hb).1;omega),(hgrow'.block _ q4.lt (fun e=>by have:=(hO.lt _ e.symm).1;omega)).trans q4.box⟩
     have R3:=Hid.intro (row_next (f:=lineB gs c) hown')
     obtain ⟨g',cap',rfl⟩:=Joins.ownsRow_form hown' (by omega)
     clear hown' hgrow' hO F Q F2 Q2
     go_wp2
     go_roundw
     case rel=>exact ⟨r+1,by omega,by go_num,R3,Q3⟩
     case measure=>simp [intOf];omega
    obtain ⟨hk1,hk2⟩:=findTo_ran (holdsB (r:Int) (c:Int)) gs
    obtain ⟨⟨v0,hv0⟩,hf0⟩:=G.out.slot hlc
    have hbw:w.heap.size < bb:=G.out.1
    have G1:=Hid.intro (G.out.over (i:=c) (Nat.le_refl _) (.int .u8 46))
    have Q3:=Hid.intro (Q2.out.set (p:=⟨bb,c,none⟩) hbw (.int .u8 46))
    have B3:=Hid.intro (k_set B.out (p:=⟨bb,c,none⟩) (by rw [HBB.out];exact Nat.le_refl _) (.int .u8 46))
    have KA:=Hid.intro (specGrdAt m n ac cc gs (r:Int) (c:Int) (by unfold I64;omega) (by unfold I64;omega) _ (H.out.kept Q3.out.below))
    have GS:=Hid.intro (G.out.set hlc)
    have GT:=Hid.intro (fun (W:World) (hf:Fill W (w.heap.size+1) bb n 5 c (fun i=>.int .u8 (letB (findTo (holdsB (r:Int) (i:Int)) gs))))=>hf.set hlc)
    have HY:=Hid.intro (letB_neg (k:=findTo (holdsB (r:Int) (c:Int)) gs))
    have HZ:=Hid.intro (letB_pos (k:=findTo (holdsB (r:Int) (c:Int)) gs))
    generalize letB (findTo (holdsB (r:Int) (c:Int)) gs)=y at GS GT HY HZ
    generalize findTo (holdsB (r:Int) (c:Int)) gs=k at KA hk1 hk2 HY HZ
    obtain ⟨q3,q4,q5⟩:=Q3.out.cells
    clear G Q F F2 Q2
    by_cases hk:k < 0
    ·obtain rfl:=HY.out hk
     obtain rfl:k=-1:=by omega
     clear hk HY HZ GT
     go_wp2_with fail
     refine KA.out.mono ?_
     rintro e W5 ⟨rfl,hb5⟩
     have G5:=Hid.intro (GS.out.kept hb5)
     have B5:=Hid.intro (k_trans B3.out hb5)
     clear hb5 KA
     go_wp2
     go_roundw
     case rel=>exact ⟨c+1,by omega,by go_num,G5,B5⟩
     case measure=>simp [intOf];omega
    ·obtain rfl:=HZ.out hk
     obtain ⟨a,rfl⟩:∃ a:Nat,k=a:=⟨k.toNat,by omega⟩
     have hm:Int.tmod (a:Int) 26=(a:Int) % 26:=Int.tmod_eq_emod_of_nonneg (by omega)
     clear HY HZ GS
     go_wp2_with fail
     refine KA.out.mono ?_
     rintro e W5 ⟨rfl,hb5⟩
     have G5:=Hid.intro (G1.out.kept hb5)
     have B5:=Hid.intro (k_trans B3.out hb5)
     obtain ⟨⟨v5,hv5⟩,hf5⟩:=G5.out.slot hlc
     have G6:=Hid.intro (GT.out _ G5.out)
     have B6:=Hid.intro (k_set B5.out (p:=⟨bb,c,none⟩) (by rw [HBB.out];exact Nat.le_refl _) (.int .u8 (97+(a:Int) % 26)))
     clear hb5 KA GT G1
     go_wp2
     go_roundw
     case rel=>exact ⟨c+1,by omega,by go_num,G6,B6⟩
     case measure=>simp [intOf];omega
end Go.Proofs.Ytggmjiddadjilac
