/-
  PROVED HERE: a region that draws its order, whose own operations only read and whose callees turn nothing that was in memory, may be walked once, in its text's order. Also: a slice that can be read lies in memory as 'At' says, whatever its elements are. Also: where a grid of package laws can be read it lies in memory. Also: what the laws' own szGrdGrid, toGrdGrid and eqGrdGrid answer, and what they call; nothing that was in memory is turned. Also: what is as it was but the blocks from one number on up to another one. Also: lists of numbers in memory, read (IntsAt) or in a block of their own (RowI), for the other texts of this claim.
-/
import Derived.Test.YtggmjiddadjilaoB1
import Derived.Test.YtggmjiddadjilaoB6
import Derived.Deep.QuietTactic
import Derived.BigQuiet
import Derived.Deep.Slices
import Derived.WideShapes
import Derived.OpenShut
import Derived.WalkLawsBesides
import Derived.WalkSpells
import Derived.Deep.RegionWith
import Derived.Laws.AppendOwn
namespace Go.Proofs.Ytggmjiddadjilao
open Go.RowKit

/-- a world in which what was in memory is as it was -/
structure BW (w:World) where
 u:World
 h:Below w.heap.size w u
theorem bw_some (w:World):Nonempty (BW w):=⟨⟨w,Below.refl _ _⟩⟩
theorem wp_region_quiet_below {P:Program} {id:Nat} {Q:Exit→Act→World→Prop} {a:Act} {w:World} {l:List Oper} (hm:P.follows .mixedOrders=true) (hB:Region.lexB .any l.toArray=true)
  (h:wpQuiet P l.toArray (fun w'=>∃ p:BW w,w'=p.u) (fun a'=>∀ w',(∃ p:BW w,w'=p.u)→Q .normal a' w') l a):(Code.region id l.toArray true).wp P Q a w :=
 wp_region_quiet (C:=fun w'=>∃ p:BW w,w'=p.u) hm hB ⟨⟨_,k_drew (Below.refl _ _)⟩,rfl⟩ (by simpa using h)
theorem bw_of {P:Program} {f:FuncId} {args:Array Value} {w:World} {p:BW w} {v:Value} (h:Calls P f args p.u fun e w'=>e=.returned v∧Below p.u.heap.size p.u w') :
  Calls P f args p.u fun e w''=>e=.returned v∧∃ p:BW w,w''=p.u :=
 h.mono fun _ _ ⟨he,hb⟩=>⟨he,⟨_,k_trans p.h hb⟩,rfl⟩
theorem bw_same {P:Program} {f:FuncId} {args:Array Value} {w:World} {p:BW w} {v:Value} (h:Calls P f args p.u fun e w'=>e=.returned v∧w'=p.u) :
  Calls P f args p.u fun e w''=>e=.returned v∧∃ p:BW w,w''=p.u :=
 h.mono fun _ _ ⟨he,hb⟩=>⟨he,p,hb⟩
theorem bw_cell {w:World} {a:Addr} {v:Value} (hb:a.block < w.heap.size) (h:w.cell? a=some v) (p:BW w):p.u.cell? a=some v:=(p.h.cell hb).trans h
end Go.Proofs.Ytggmjiddadjilao
namespace Go.Proofs.Ytggmjiddadjilao
open Go.RowKit Go.ChangeShapes Go.Deep

theorem some_of {α:Type} {xs:List α} {i:Nat} {n:Nat} (hl:xs.length=n) (hi:i < n):∃ y,xs[i]?=some y:=⟨_,List.getElem?_eq_getElem (by omega)⟩
theorem choose_list {α:Type} (d:α) (P:Nat→α→Prop):∀ n,(∀ i,i < n→∃ x,P i x)→∃ l:List α,l.length=n∧∀ i,i < n→P i (l.getD i d)
 | 0,_=>⟨[],rfl,fun i hi=>absurd hi (Nat.not_lt_zero _)⟩
 | n+1,h=>by
  obtain ⟨l,hl,hp⟩:=choose_list d P n (fun i hi=>h i (Nat.lt_succ_of_lt hi))
  obtain ⟨x,hx⟩:=h n (Nat.lt_succ_self _)
  refine ⟨l ++ [x],by simp [hl],fun i hi=>?_⟩
  rcases Nat.lt_or_eq_of_le (Nat.lt_succ_iff.1 hi) with h1 | h1
  ·have e:(l ++ [x]).getD i d=l.getD i d:=by simp [List.getD,List.getElem?_append_left (by omega:i < l.length)]
   rw [e];exact hp i h1
  ·subst h1
   have e:(l ++ [x]).getD i d=x:=by simp [List.getD,← hl]
   rw [e];exact hx

section
variable {H:Type} {enc:TypeId × Value→H} {w:World} {spare:Nat→Bool} {held:Bool}

theorem spot_none {a:Addr} {sz:Nat} {cs:List Value} (hs:0 < sz) (h:w.cells? 0 (a.add (0 * sz)) sz=some cs):∃ b off,a=⟨b,off,none⟩:=by
 obtain ⟨b,off,spot⟩:=a
 obtain ⟨_,hl,hc⟩:=World.cells?_some h
 have h0:=hc 0 hs
 rw [List.getElem?_eq_getElem (by omega)] at h0
 have hsp:=World.cell?_spot h0
 simp [Addr.add] at hsp
 exact ⟨b,off,by rw [hsp]⟩
/-- the cells of an element of a slice, one by one -/
theorem elem_cells {b off i sz:Nat} {cs:List Value} (hs:0 < sz) (h:w.cells? 0 ((⟨b,off,none⟩:Addr).add (i * sz)) sz=some cs):b < w.heap.size∧cs.length=sz∧∀ j,j < sz→w.cell? ⟨b,off+i * sz+j,none⟩=cs[j]?:=by
 rw [Go.WideShapes.add_plain] at h
 have hb:=World.cells?_block h hs
 obtain ⟨_,hl,hc⟩:=World.cells?_some h
 exact ⟨hb,hl,fun j hj=>by rw [← Go.WideShapes.add_plain b (off+i * sz) j];exact hc j hj⟩

/-- a slice that can be read, whatever its elements are -/
theorem open_at {α:Type} {t e:TypeId} {fuel sz:Nat} {cs:List Value} {x:DataW H × List MemPlace} (d:α) (ht:Try.prog.underlying t=some (.slice e)) (hc:Try.prog.cellsOf e=sz) (hs:0 < sz)
  (E:α→Nat→Nat→Prop)
  (hE:∀ (n b o:Nat) (cs':List Value) (y:DataW H × List MemPlace),DataW.trod enc Try.prog w 0 spare held n e cs'=some y→(∀ j,j < sz→w.cell? ⟨b,o+j,none⟩=cs'[j]?)→∃ x,E x b o)
  (h:DataW.trod enc Try.prog w 0 spare held fuel t cs=some x):∃ (v:Value) (l:List α),cs=[v]∧At w 0 v l.length sz (fun i b o=>E (l.getD i d) b o):=by
 rcases open_slice ht h with ⟨hcs,_⟩ | ⟨a,len,cap,m,n,D,Pl,hcs,_,hl,hm,hmm,_,hx⟩
 ·exact ⟨_,[],hcs,⟨none,0,rfl,Nat.le_refl _,Nat.zero_le _,fun i hi=>absurd hi (Nat.not_lt_zero _)⟩⟩
 ·rw [hc] at hx
  have hlm:len≤m:=by rw [hmm];split <;> omega
  rcases Nat.eq_zero_or_pos len with h0 | h0
  ·subst h0
   exact ⟨_,[],hcs,⟨some a,cap,rfl,Nat.zero_le _,hm,fun i hi=>absurd hi (Nat.not_lt_zero _)⟩⟩
  ·obtain ⟨cs0,hc0,_⟩:=hx 0 (by omega)
   obtain ⟨b,off,rfl⟩:=spot_none hs hc0
   obtain ⟨l,hll,hp⟩:=choose_list d (fun i x=>b < w.heap.size∧E x b (off+i * sz)) len (fun i hi=>by
    obtain ⟨cs',h1,h2⟩:=hx i (by omega)
    obtain ⟨hb,_,hcell⟩:=elem_cells hs h1
    obtain ⟨x,hx⟩:=hE _ b (off+i * sz) cs' _ h2 hcell
    exact ⟨x,hb,hx⟩)
   refine ⟨_,l,hcs,⟨some ⟨b,off,none⟩,cap,by rw [hll],by omega,hm,fun i hi=>?_⟩⟩
   obtain ⟨hb,hx⟩:=hp i (by omega)
   exact ⟨b,off,rfl,hb,Nat.zero_le _,hx⟩
end
end Go.Proofs.Ytggmjiddadjilao
namespace Go.Proofs.Ytggmjiddadjilao
open Go.RowKit Go.ChangeShapes Go.Deep

theorem cIntG:Try.prog.cellsOf 3=1:=by kernel_rfl
theorem cGC:Try.prog.cellsOf 108=5:=by kernel_rfl
theorem cSlG:Try.prog.cellsOf 28=1:=by kernel_rfl
theorem cGrd:Try.prog.cellsOf 30=3:=by kernel_rfl

section
variable {H:Type} {enc:TypeId × Value→H} {w:World} {spare:Nat→Bool} {held:Bool}

set_option maxRecDepth 100000 in
theorem openGsL {fuel:Nat} {cs:List Value} {x:DataW H × List MemPlace} (h:DataW.trod enc Try.prog w 0 spare held fuel 28 cs=some x):∃ (v:Value) (l:List GC),cs=[v]∧GsAt w 0 v l:=by
 refine open_at (α:=GC) dG Try.underlying28 cGC (by omega) (fun x b o=>GIs w b o x∧GOk x) (fun n b o cs' y hy hc=>?_) h
 obtain ⟨xs,m,_,_,hl,hlen,hf⟩:=DataW.trod_struct Try.underlying108 hy
 rw [cGC] at hl
 simp at hlen
 match cs',hl with
 | [c0,c1,c2,c3,c4],_ =>
  obtain ⟨y0,k0⟩:=some_of (i:=0) hlen (by omega)
  obtain ⟨y1,k1⟩:=some_of (i:=1) hlen (by omega)
  obtain ⟨y2,k2⟩:=some_of (i:=2) hlen (by omega)
  obtain ⟨y3,k3⟩:=some_of (i:=3) hlen (by omega)
  obtain ⟨y4,k4⟩:=some_of (i:=4) hlen (by omega)
  have f0:=(hf 0 _ rfl).trans k0
  have f1:=(hf 1 _ rfl).trans k1
  have f2:=(hf 2 _ rfl).trans k2
  have f3:=(hf 3 _ rfl).trans k3
  have f4:=(hf 4 _ rfl).trans k4
  simp [cIntG] at f0 f1 f2 f3 f4
  obtain ⟨n0,e0,_,b0⟩:=DataW.trod_int Try.underlying3 f0
  obtain ⟨n1,e1,_,b1⟩:=DataW.trod_int Try.underlying3 f1
  obtain ⟨n2,e2,_,b2⟩:=DataW.trod_int Try.underlying3 f2
  obtain ⟨n3,e3,_,b3⟩:=DataW.trod_int Try.underlying3 f3
  obtain ⟨n4,e4,_,b4⟩:=DataW.trod_int Try.underlying3 f4
  simp at e0 e1 e2 e3 e4
  subst e0 e1 e2 e3 e4
  exact ⟨⟨n0,n1,n2,n3,n4⟩,⟨hc 0 (by omega),hc 1 (by omega),hc 2 (by omega),hc 3 (by omega),hc 4 (by omega)⟩,bounds_i64 b0,bounds_i64 b1,bounds_i64 b2,bounds_i64 b3,bounds_i64 b4⟩

set_option maxRecDepth 100000 in
theorem openGrdL {fuel:Nat} {cs:List Value} {x:DataW H × List MemPlace} (h:DataW.trod enc Try.prog w 0 spare held fuel 30 cs=some x):∃ g:G,GrdAt w 0 (.agg cs.toArray) g∧I64 g.rows∧I64 g.cols:=by
 obtain ⟨xs,n,_,_,hl,hlen,hf⟩:=DataW.trod_struct Try.underlying30 h
 rw [cGrd] at hl
 simp at hlen
 match cs,hl with
 | [c0,c1,c2],_ =>
  obtain ⟨y0,k0⟩:=some_of (i:=0) hlen (by omega)
  obtain ⟨y1,k1⟩:=some_of (i:=1) hlen (by omega)
  obtain ⟨y2,k2⟩:=some_of (i:=2) hlen (by omega)
  have f0:=(hf 0 _ rfl).trans k0
  have f1:=(hf 1 _ rfl).trans k1
  have f2:=(hf 2 _ rfl).trans k2
  simp [cIntG,cSlG] at f0 f1 f2
  obtain ⟨n0,e0,_,b0⟩:=DataW.trod_int Try.underlying3 f0
  obtain ⟨n1,e1,_,b1⟩:=DataW.trod_int Try.underlying3 f1
  obtain ⟨vc,lc,e2,hvc⟩:=openGsL f2
  simp at e0 e1 e2
  subst e0 e1 e2
  exact ⟨⟨n0,n1,lc⟩,⟨c2,rfl,hvc⟩,bounds_i64 b0,bounds_i64 b1⟩
end
end Go.Proofs.Ytggmjiddadjilao
namespace Go.Proofs.Ytggmjiddadjilao
open Go.RowKit

set_option maxRecDepth 100000 in
theorem szGrdCellS_any (v:Value) (gs:List GC) (w:World) {z:Nat} (h:GsAt w z v gs) :
  Calls Try.prog 33 #[v,.int .i64 1048576] w fun e w'=>e=.returned (.int .i64 (leftOf 1048576 gs.length))∧Below w.heap.size w w':=by
 obtain ⟨a,cap,rfl,hlen⟩:=At.form h
 unfold maxLen at hlen
 clear h
 by_cases hl:(gs.length:Int)≤1048576
 ·have hl':¬ (1048576:Int) - (gs.length:Int) < 0:=by omega
  rw [leftOf_pos hl]
  go_enter Try.func33,Try.ntmps33
  go_wp2
  go_ret
  exact ⟨rfl,Below.refl _ _⟩
 ·have hl':(1048576:Int) - (gs.length:Int) < 0:=by omega
  rw [leftOf_neg hl]
  go_enter Try.func33,Try.ntmps33
  go_wp2
  go_ret
  exact ⟨rfl,Below.refl _ _⟩

set_option maxRecDepth 100000 in
theorem szGrdGrid_any (a b:Int) (v:Value) (gs:List GC) (w:World) {z:Nat} (h:GsAt w z v gs) :
  Calls Try.prog 11 #[.agg #[.int .i64 a,.int .i64 b,v],.int .i64 1048576] w fun e w'=>e=.returned (.int .i64 (leftOf 1048576 gs.length))∧Below w.heap.size w w':=by
 obtain ⟨c,cap,rfl,hlen⟩:=At.form h
 have H:=Hid.intro (h.kept (k_alloc (Below.refl _ _) (.cells #[.int .i64 a,.int .i64 b,.slice c gs.length cap] 30)))
 clear h
 by_cases hl:(gs.length:Int)≤1048576
 ·have hl':¬ (1048576:Int) - (gs.length:Int) < 0:=by omega
  have HL:=Hid.intro (leftOf_pos hl)
  go_enter Try.func11,Try.ntmps11
  go_wp2_with fail
  refine (szGrdCellS_any _ gs _ H.out).mono ?_
  rw [HL.out]
  rintro e w1 ⟨rfl,hb1⟩
  have HB1:=Hid.intro (k_trans (k_alloc (Below.refl _ _) _) hb1)
  clear hb1
  go_wp2
  go_ret
  exact ⟨by rw [HL.out];rfl,HB1.out⟩
 ·have HL:=Hid.intro (leftOf_neg hl)
  go_enter Try.func11,Try.ntmps11
  go_wp2_with fail
  refine (szGrdCellS_any _ gs _ H.out).mono ?_
  rw [HL.out]
  rintro e w1 ⟨rfl,hb1⟩
  have HB1:=Hid.intro (k_trans (k_alloc (Below.refl _ _) _) hb1)
  clear hb1
  go_wp2
  go_ret
  exact ⟨by rw [HL.out];rfl,HB1.out⟩

theorem toGrdCell_any (x0 x1 x2 x3 x4:Int) (w:World) :
  Calls Try.prog 72 #[.agg #[.int .i64 x0,.int .i64 x1,.int .i64 x2,.int .i64 x3,.int .i64 x4]] w fun e w'=>e=.returned (.agg #[.int .i64 x0,.int .i64 x1,.int .i64 x2,.int .i64 x3,.int .i64 x4])∧Below w.heap.size w w':=by
 go_enter Try.func72,Try.ntmps72
 go_wp2
 refine bodyPost_ret (v:=.agg #[.int .i64 x0,.int .i64 x1,.int .i64 x2,.int .i64 x3,.int .i64 x4]) (by simp [results,Try.results72,go_sem]) rfl ⟨rfl,?_⟩
 exact k_alloc (k_alloc (k_alloc (Below.refl _ _) _) _) _

/-- the five cells of a cell in an array -/
def GArr (arr:Array Value) (o:Nat) (x:GC):Prop :=
 arr[o]?=some (.int .i64 x.row)∧arr[o+1]?=some (.int .i64 x.col)∧arr[o+2]?=some (.int .i64 x.rows)∧arr[o+3]?=some (.int .i64 x.cols)∧arr[o+4]?=some (.int .i64 x.ins)
def put5 (arr:Array Value) (o:Nat) (x:GC):Array Value :=
 ((((arr.setIfInBounds o (.int .i64 x.row)).setIfInBounds (o+1) (.int .i64 x.col)).setIfInBounds (o+2) (.int .i64 x.rows)).setIfInBounds (o+3) (.int .i64 x.cols)).setIfInBounds (o+4) (.int .i64 x.ins)
theorem put5_size (arr:Array Value) (o:Nat) (x:GC):(put5 arr o x).size=arr.size:=by simp [put5]
theorem put5_before (arr:Array Value) (o:Nat) (x:GC) (p:Nat) (h:p < o):(put5 arr o x)[p]?=arr[p]?:=by
 unfold put5
 iterate 5 rw [Array.getElem?_setIfInBounds_ne (by omega)]
theorem put5_at (arr:Array Value) (o:Nat) (x:GC) (h:o+4 < arr.size):GArr (put5 arr o x) o x:=by
 have ne:∀ (A:Array Value) (i j:Nat) (v:Value),i ≠ j→(A.setIfInBounds i v)[j]?=A[j]?:=fun A i j v hij=>Array.getElem?_setIfInBounds_ne hij
 have eq:∀ (A:Array Value) (i:Nat) (v:Value),i < A.size→(A.setIfInBounds i v)[i]?=some v:=fun A i v hi=>by simp [hi]
 unfold GArr put5
 refine ⟨?_,?_,?_,?_,?_⟩
 ·iterate 4 rw [ne _ _ _ _ (by omega)]
  exact eq _ _ _ (by first | omega | (simp;omega))
 ·iterate 3 rw [ne _ _ _ _ (by omega)]
  exact eq _ _ _ (by first | omega | (simp;omega))
 ·iterate 2 rw [ne _ _ _ _ (by omega)]
  exact eq _ _ _ (by first | omega | (simp;omega))
 ·iterate 1 rw [ne _ _ _ _ (by omega)]
  exact eq _ _ _ (by first | omega | (simp;omega))
 ·exact eq _ _ _ (by first | omega | (simp;omega))
theorem GArr.of_same {a b:Array Value} {o:Nat} {x:GC} (h:GArr a o x) (e:∀ p,o≤p→p≤o+4→b[p]?=a[p]?):GArr b o x:=by
 unfold GArr at h ⊢
 rw [e o (by omega) (by omega),e (o+1) (by omega) (by omega),e (o+2) (by omega) (by omega),e (o+3) (by omega) (by omega),e (o+4) (by omega) (by omega)]
 exact h
theorem put5_next {arr:Array Value} {gs:List GC} {k:Nat} (hs:arr.size=gs.length * 5) (hk:k < gs.length) (h:∀ i,i < k→GArr arr (i * 5) (gs.getD i dG)) :
  ∀ i,i < k+1→GArr (put5 arr (k * 5) (gs.getD k dG)) (i * 5) (gs.getD i dG):=by
 intro i hi
 rcases Nat.lt_or_eq_of_le (Nat.lt_succ_iff.1 hi) with h1 | rfl
 ·exact (h i h1).of_same (fun p hp1 hp2=>put5_before _ _ _ _ (by omega))
 ·exact put5_at _ _ _ (by omega)
theorem GIs.of_arr {w:World} {g o:Nat} {arr:Array Value} {t:TypeId} {x:GC} (h:w.heap[g]?=some (.cells arr t)) (hx:GArr arr o x):GIs w g o x:=by
 unfold GIs
 simp only [cellB h]
 exact hx

/-- the new array of so many cells -/
def newG (n:Nat):Array Value:=madeCells (Value.agg #[.int .i64 0,.int .i64 0,.int .i64 0,.int .i64 0,.int .i64 0]).cells (n * 5)
theorem newG_size (n:Nat):(newG n).size=n * 5:=size_madeCells _ _
theorem infoG:(Try.prog.info? 104).map (fun i=>(i.zero,i.size,i.bytes))=some (some (Value.agg #[.int .i64 0,.int .i64 0,.int .i64 0,.int .i64 0,.int .i64 0]),5,40):=by kernel_rfl
theorem makeG (n:Nat) (hn:n≤1048576) (u:World):(Instr.makeSlice 34 (.int .i64 (n:Int)) (.int .i64 (n:Int))).run Try.prog u=.ok (.slice (some ⟨u.heap.size,0,none⟩) n n) (u.alloc (.cells (newG n) 104)):=by
 obtain ⟨i0,hi,hz0,hz1,hz2⟩:=info_parts infoG
 have h:=run_make (P:=Try.prog) u 34 104 i0 _ Try.underlying34 hi hz0 .i64 .i64 (n:Int) (n:Int) (by omega) (Int.le_refl _) (by rw [hz2];omega) (by omega)
 rw [hz1,Int.toNat_natCast] at h
 exact h

set_option maxRecDepth 100000 in
set_option maxHeartbeats 1000000 in
theorem toGrdCellS_any (v:Value) (gs:List GC) (hn:gs.length≤1048576) (w:World) {z:Nat} (h:GsAt w z v gs) :
  Calls Try.prog 36 #[v] w fun e w'=>∃ a cap,e=.returned (.slice a gs.length cap)∧GsAt w' w.heap.size (.slice a gs.length cap) gs∧Below w.heap.size w w':=by
 obtain ⟨a,cap,rfl,hlen⟩:=At.form h
 have hmk:=makeG gs.length hn
 have H:=Hid.intro h
 clear h
 go_enter Try.func36,Try.ntmps36
 go_wp2_with fail
 clear hmk
 go_loopw [4] (fun i W=>∃ (k:Nat) (arr:Array Value),k≤gs.length∧i=.int .i64 k∧Hid (W.heap[w.heap.size]?=some (.cells arr 104))∧arr.size=gs.length * 5∧Hid (∀ i,i < k→GArr arr (i * 5) (gs.getD i dG))∧Hid (Below w.heap.size w W)∧w.heap.size < W.heap.size) (fun i _=>gs.length - (intOf i).toNat)
 case atStart=>exact ⟨0,newG gs.length,Nat.zero_le _,rfl,newestB _ _,newG_size _,fun i hi=>absurd hi (Nat.not_lt_zero _),k_alloc (Below.refl _ _) _,by simp⟩
 case round =>
  obtain ⟨k,arr,hk,rfl,HBk,hsz,HA,HB,hw⟩:=hrel
  by_cases hlt:k < gs.length
  ·obtain ⟨b,off,cap',e',hc1,hc2,hbl,hx,hs⟩:=At.get (H.out.kept HB.out) hlt
   simp only [Value.slice.injEq,true_and] at e'
   obtain ⟨rfl,rfl⟩:=e'
   have HN:=Hid.intro (put5_next hsz hlt HA.out)
   clear hs
   generalize gs.getD k dG=x at hx HN
   obtain ⟨x0,x1,x2,x3,x4⟩:=hx
   unfold maxLen at hc2
   go_wp2_with fail
   refine (toGrdCell_any _ _ _ _ _ _).mono ?_
   rintro e w1 ⟨rfl,hb1⟩
   have B1:=(hb1.block w.heap.size hw).trans HBk.out
   have hw1:w.heap.size < w1.heap.size:=Nat.lt_of_lt_of_le hw hb1.size
   obtain ⟨y0,q0⟩:=someB (p:=k * 5) B1 (by omega)
   obtain ⟨y1,q1⟩:=someB (p:=k * 5+1) B1 (by omega)
   obtain ⟨y2,q2⟩:=someB (p:=k * 5+2) B1 (by omega)
   obtain ⟨y3,q3⟩:=someB (p:=k * 5+3) B1 (by omega)
   obtain ⟨y4,q4⟩:=someB (p:=k * 5+4) B1 (by omega)
   have fz:∀ p,w1.frozen? ⟨w.heap.size,p,none⟩=false:=fun p=>freeB B1
   have HB1:=Hid.intro B1
   have HK1:=Hid.intro (k_trans HB.out hb1)
   clear B1 hb1 HA HB HBk x0 x1 x2 x3 x4
   go_wp2
   go_roundw
   case rel=>exact ⟨k+1,put5 arr (k * 5) x,by omega,by go_num,setB (setB (setB (setB (setB HB1.out _) _) _) _) _,by rw [put5_size];exact hsz,HN,(k_set (k_set (k_set (k_set (k_set HK1.out (Nat.le_refl _) _) (Nat.le_refl _) _) (Nat.le_refl _) _) (Nat.le_refl _) _) (Nat.le_refl _) _),Nat.lt_of_lt_of_eq hw1 (by iterate 5 rw [sizeSet])⟩
   case measure=>simp [intOf];omega
  ·obtain rfl:k=gs.length:=by omega
   go_wp2
   go_ret
   refine ⟨_,_,rfl,⟨_,_,rfl,Nat.le_refl _,hlen,fun i hi=>⟨w.heap.size,0,rfl,hw,Nat.le_refl _,?_,?_⟩⟩,HB.out⟩
   ·rw [Nat.zero_add];exact GIs.of_arr HBk.out (HA.out i hi)
   ·obtain ⟨_,_,_,_,_,_,_,_,hs⟩:=At.get H.out hi;exact hs

set_option maxRecDepth 100000 in
set_option maxHeartbeats 1000000 in
theorem toGrdGrid_any (a b:Int) (v:Value) (gs:List GC) (hn:gs.length≤1048576) (w:World) {z:Nat} (h:GsAt w z v gs) :
  Calls Try.prog 13 #[.agg #[.int .i64 a,.int .i64 b,v]] w fun e w'=>∃ ac cc,e=.returned (.agg #[.int .i64 a,.int .i64 b,.slice ac gs.length cc])∧GsAt w' w.heap.size (.slice ac gs.length cc) gs∧Below w.heap.size w w':=by
 obtain ⟨c,cap,rfl,hlen⟩:=At.form h
 have H:=Hid.intro h
 clear h
 go_enter Try.func13,Try.ntmps13
 go_wp2_with fail
 refine (toGrdCellS_any _ gs hn _ (H.out.kept (k_alloc (k_alloc (k_alloc (Below.refl _ _) _) _) _))).mono ?_
 rintro e w1 ⟨a1,cap1,rfl,hC1,hb1⟩
 obtain ⟨hc1,hf1⟩:=bcell hb1
 have hz1:w.heap.size+1+1 < w1.heap.size:=by have:=hb1.size;simp at this;omega
 have hy1:w.heap.size+1 < w1.heap.size:=by omega
 have hx1:w.heap.size < w1.heap.size:=by omega
 have HC1:=Hid.intro hC1
 have HB1:=Hid.intro hb1
 clear hC1 hb1
 go_wp2
 refine bodyPost_ret (v:=.agg #[.int .i64 a,.int .i64 b,.slice a1 gs.length cap1]) (by simp [results,Try.results13,go_sem,hc1]) rfl ⟨a1,cap1,rfl,?_,?_⟩
 ·exact (HC1.out.since (Since.set (Since.set (Since.set (Since.set (Since.refl _ _) (by simp) _) (by simp) _) (by simp) _) (by simp) _)).base (by simp;omega)
 ·exact k_set (k_set (k_set (k_set (k_trans (k_alloc (k_alloc (k_alloc (Below.refl _ _) _) _) _) HB1.out) (by dsimp only;omega) _) (by dsimp only;omega) _) (by dsimp only;omega) _) (by dsimp only;omega) _

set_option maxRecDepth 100000 in
theorem eqGrdCell_any (x:GC) (w:World) :
  Calls Try.prog 75 #[.agg #[.int .i64 x.row,.int .i64 x.col,.int .i64 x.rows,.int .i64 x.cols,.int .i64 x.ins],.agg #[.int .i64 x.row,.int .i64 x.col,.int .i64 x.rows,.int .i64 x.cols,.int .i64 x.ins]] w fun e w'=>e=.returned (.bool true)∧Below w.heap.size w w':=by
 have h0:(x.row != x.row)=false:=by simp
 have h1:(x.col != x.col)=false:=by simp
 have h2:(x.rows != x.rows)=false:=by simp
 have h3:(x.cols != x.cols)=false:=by simp
 have h4:(x.ins != x.ins)=false:=by simp
 go_enter Try.func75,Try.ntmps75
 go_wp2
 go_ret
 exact ⟨rfl,k_alloc (k_alloc (Below.refl _ _) _) _⟩

set_option maxRecDepth 100000 in
set_option maxHeartbeats 2000000 in
theorem eqGrdCellS_any (v1 v2:Value) (gs:List GC) (w:World) {z1 z2:Nat} (h1:GsAt w z1 v1 gs) (h2:GsAt w z2 v2 gs) :
  Calls Try.prog 40 #[v1,v2] w fun e w'=>e=.returned (.bool true)∧Below w.heap.size w w':=by
 obtain ⟨a1,cap1,rfl,hlen⟩:=At.form h1
 obtain ⟨a2,cap2,rfl,_⟩:=At.form h2
 unfold maxLen at hlen
 have hne:((gs.length:Int) != (gs.length:Int))=false:=by simp
 have H1:=Hid.intro h1
 have H2:=Hid.intro h2
 clear h1 h2
 go_enter Try.func40,Try.ntmps40
 go_wp2_with fail
 go_loopw [5] (fun i W=>∃ k:Nat,k≤gs.length∧i=.int .i64 k∧Hid (Below w.heap.size w W)) (fun i _=>gs.length - (intOf i).toNat)
 case atStart=>exact ⟨0,Nat.zero_le _,rfl,Below.refl _ _⟩
 case round =>
  obtain ⟨k,hk,rfl,HB⟩:=hrel
  by_cases hlt:k < gs.length
  ·have hlt':(k:Int) < (gs.length:Int):=by omega
   have h0':(0:Int)≤(k:Int):=by omega
   obtain ⟨b1,off1,cap1',e1,hc11,hc12,hbl1,hx,_⟩:=At.get (H1.out.kept HB.out) hlt
   simp only [Value.slice.injEq,true_and] at e1
   obtain ⟨rfl,rfl⟩:=e1
   unfold maxLen at hc12
   obtain ⟨b2,off2,cap2',e2,hc21,hc22,hbl2,hy,_⟩:=At.get (H2.out.kept HB.out) hlt
   simp only [Value.slice.injEq,true_and] at e2
   obtain ⟨rfl,rfl⟩:=e2
   unfold maxLen at hc22
   generalize gs.getD k dG=x at hx hy
   obtain ⟨x0,x1,x2,x3,x4⟩:=hx
   obtain ⟨y0,y1,y2,y3,y4⟩:=hy
   go_wp2_with fail
   go_region_with (go_at_call 75;refine (eqGrdCell_any x _).mono ?_;rintro e w1 ⟨rfl,hb1⟩;have HB1:=Hid.intro (k_trans (k_drew HB.out) hb1);clear hb1)
   all_goals
    go_wp2
    go_roundw
    case rel=>exact ⟨k+1,by omega,by go_num,HB1⟩
    case measure=>simp [intOf];omega
  ·go_wp2
   go_ret
   exact ⟨rfl,HB.out⟩

set_option maxRecDepth 100000 in
set_option maxHeartbeats 1000000 in
theorem eqGrdGrid_any (a b:Int) (v1 v2:Value) (gs:List GC) (w:World) {z1 z2:Nat} (h1:GsAt w z1 v1 gs) (h2:GsAt w z2 v2 gs) :
  Calls Try.prog 16 #[.agg #[.int .i64 a,.int .i64 b,v1],.agg #[.int .i64 a,.int .i64 b,v2]] w fun e w'=>e=.returned (.bool true)∧Below w.heap.size w w':=by
 obtain ⟨a1,c1,rfl,_⟩:=At.form h1
 obtain ⟨a2,c2,rfl,_⟩:=At.form h2
 have ha:(a != a)=false:=by simp
 have hb:(b != b)=false:=by simp
 have K:=Hid.intro (k_alloc (k_alloc (Below.refl w.heap.size w) (.cells #[.int .i64 a,.int .i64 b,.slice a1 gs.length c1] 36)) (.cells #[.int .i64 a,.int .i64 b,.slice a2 gs.length c2] 36))
 have H1:=Hid.intro (h1.kept K.out)
 have H2:=Hid.intro (h2.kept K.out)
 clear h1 h2
 go_enter Try.func16,Try.ntmps16
 go_wp2_with fail
 refine (eqGrdCellS_any _ _ gs _ H1.out H2.out).mono ?_
 rintro e w1 ⟨rfl,hb1⟩
 have HB1:=Hid.intro (k_trans K.out hb1)
 clear hb1
 go_wp2
 go_ret
 exact ⟨rfl,HB1.out⟩
end Go.Proofs.Ytggmjiddadjilao
namespace Go.Proofs.Ytggmjiddadjilao
open Go.RowKit

/-- what lies ahead of B, or at D and behind it, is as it was -/
structure Out (B D:Nat) (w w':World):Prop where
 below:Below B w w'
 block:∀ k,D≤k→k < w.heap.size→w'.heap[k]?=w.heap[k]?
theorem Out.refl (B D:Nat) (w:World):Out B D w w:=⟨Below.refl _ _,fun _ _ _=>rfl⟩
theorem Out.set {B D:Nat} {a w:World} (h:Out B D a w) {p:Addr} (h1:B≤p.block) (h2:p.block < D) (v:Value):Out B D a (w.setCell p v) :=
 ⟨h.below.setCell h1 v,fun k h3 h4=>(Below.heap_setCell _ _ _ _ (by omega)).trans (h.block k h3 h4)⟩
theorem Out.drewN {B D:Nat} {a w:World} (h:Out B D a w) (n:Nat):Out B D a (w.drewN n):=⟨⟨h.below.os,h.below.tape,h.below.output,h.below.size,h.below.block⟩,h.block⟩
end Go.Proofs.Ytggmjiddadjilao
namespace Go.Proofs.Ytggmjiddadjilao
open Go.RowKit

/-- a list of numbers that can be read -/
def IntsAt (w:World) (v:Value) (l:List Int):Prop :=
 ∃ (a:Option Addr) (cap:Nat),v=.slice a l.length cap∧l.length≤cap∧cap≤maxLen∧∀ i,i < l.length→∃ b off,a=some ⟨b,off,none⟩∧b < w.heap.size∧w.cell? ⟨b,off+i,none⟩=some (.int .i64 (l.getD i 0))
theorem IntsAt.form {w:World} {v:Value} {l:List Int} (h:IntsAt w v l):∃ a cap,v=.slice a l.length cap∧l.length≤9223372036854775807:=by
 obtain ⟨a,cap,hv,h1,h2,_⟩:=h
 unfold maxLen at h2
 exact ⟨a,cap,hv,by omega⟩
theorem IntsAt.get {w:World} {v:Value} {l:List Int} (h:IntsAt w v l) {i:Nat} (hi:i < l.length) :
  ∃ b off cap,v=.slice (some ⟨b,off,none⟩) l.length cap∧l.length≤cap∧cap≤maxLen∧b < w.heap.size∧w.cell? ⟨b,off+i,none⟩=some (.int .i64 (l.getD i 0)):=by
 obtain ⟨a,cap,hv,h1,h2,h3⟩:=h
 obtain ⟨b,off,rfl,h4,h5⟩:=h3 i hi
 exact ⟨b,off,cap,hv,h1,h2,h4,h5⟩
theorem IntsAt.kept {w w':World} {v:Value} {l:List Int} (h:IntsAt w v l) (k:Below w.heap.size w w'):IntsAt w' v l:=by
 obtain ⟨a,cap,hv,h1,h2,h3⟩:=h
 refine ⟨a,cap,hv,h1,h2,fun i hi=>?_⟩
 obtain ⟨b,off,h4,h5,h6⟩:=h3 i hi
 exact ⟨b,off,h4,Nat.lt_of_lt_of_le h5 k.size,(k.cell (p:=⟨b,off+i,none⟩) h5).trans h6⟩

/-- a list of numbers in a block of its own, at B or behind it, ahead of D -/
def RowI (w:World) (B D:Nat) (v:Value) (l:List Int):Prop :=
 (v=.slice none 0 0∧l=[])∨∃ g cap cur,v=.slice (some ⟨g,0,none⟩) l.length cap∧B≤g∧g < D∧w.heap[g]?=some (.cells cur 3 (0,0))∧l.length≤cap∧cap≤maxLen∧cur.size=cap∧∀ i,i < l.length→cur[i]?=some (.int .i64 (l.getD i 0))
theorem RowI.of_owns {w:World} {B:Nat} {v:Value} {l:List Int} (h:w.ownsRow B 3 1 v l.length (l.map (Value.int .i64))):RowI w B w.heap.size v l:=by
 rcases h.2 with ⟨hv,h0⟩ | ⟨g,cap,cur,hv,hb,hg,h1,h2,h3,h4⟩
 ·exact .inl ⟨hv,List.eq_nil_of_length_eq_zero h0⟩
 ·refine .inr ⟨g,cap,cur,hv,hb,(Array.getElem?_eq_some_iff.1 hg).1,hg,h1,h2,by omega,fun i hi=>?_⟩
  have:cur.toList[i]?=(l.map (Value.int .i64))[i]?:=by rw [← h4,List.getElem?_take_of_lt (by omega)]
  rw [← Array.getElem?_toList,this]
  simp [List.getD,hi]
theorem RowI.owns {w:World} {B D:Nat} {v:Value} {l:List Int} (h:RowI w B D v l):w.ownsRow B 3 1 v l.length (l.map (Value.int .i64)):=by
 refine ⟨by simp,?_⟩
 rcases h with ⟨hv,rfl⟩ | ⟨g,cap,cur,hv,hb,hd,hg,h1,h2,h3,h4⟩
 ·exact .inl ⟨hv,rfl⟩
 ·refine .inr ⟨g,cap,cur,hv,hb,hg,h1,h2,by omega,?_⟩
  apply List.ext_getElem?
  intro i
  by_cases hi:i < l.length
  ·rw [List.getElem?_take_of_lt (by omega),Array.getElem?_toList,h4 i hi]
   simp [List.getD,hi]
  ·rw [List.getElem?_eq_none (by simp;omega),List.getElem?_eq_none (by simp;omega)]
theorem RowI.at {w:World} {B D:Nat} {v:Value} {l:List Int} (h:RowI w B D v l):IntsAt w v l:=by
 rcases h with ⟨rfl,rfl⟩ | ⟨g,cap,cur,hv,hb,hd,hg,h1,h2,h3,h4⟩
 ·exact ⟨none,0,rfl,Nat.le_refl _,Nat.zero_le _,fun i hi=>absurd hi (Nat.not_lt_zero _)⟩
 ·exact ⟨_,cap,hv,h1,h2,fun i hi=>⟨g,0,rfl,(Array.getElem?_eq_some_iff.1 hg).1,by rw [Nat.zero_add];exact (cellB hg).trans (h4 i hi)⟩⟩
theorem RowI.kept {w w':World} {B D:Nat} {v:Value} {l:List Int} (h:RowI w B D v l) (k:∀ j,j < w.heap.size→B≤j→j < D→w'.heap[j]?=w.heap[j]?):RowI w' B D v l:=by
 rcases h with h | ⟨g,cap,cur,hv,hb,hd,hg,r⟩
 ·exact .inl h
 ·exact .inr ⟨g,cap,cur,hv,hb,hd,(k g (Array.getElem?_eq_some_iff.1 hg).1 hb hd).trans hg,r⟩
theorem RowI.below {w w':World} {B D C:Nat} {v:Value} {l:List Int} (h:RowI w B D v l) (k:Below C w w') (hC:D≤C):RowI w' B D v l :=
 h.kept (fun j _ _ h2=>k.block j (Nat.lt_of_lt_of_le h2 hC))
theorem RowI.base {w:World} {B B' D D':Nat} {v:Value} {l:List Int} (h:RowI w B D v l) (hB:B'≤B) (hD:D≤D'):RowI w B' D' v l:=by
 rcases h with h | ⟨g,cap,cur,hv,hb,hd,r⟩
 ·exact .inl h
 ·exact .inr ⟨g,cap,cur,hv,Nat.le_trans hB hb,Nat.lt_of_lt_of_le hd hD,r⟩
theorem RowI.form {w:World} {B D:Nat} {v:Value} {l:List Int} (h:RowI w B D v l):∃ a cap,v=.slice a l.length cap:=by
 rcases h with ⟨rfl,rfl⟩ | ⟨g,cap,cur,hv,_⟩
 ·exact ⟨none,0,rfl⟩
 ·exact ⟨_,_,hv⟩
theorem RowI.get {w:World} {B D:Nat} {v:Value} {l:List Int} (h:RowI w B D v l) {i:Nat} (hi:i < l.length) :
  ∃ g cap,v=.slice (some ⟨g,0,none⟩) l.length cap∧B≤g∧g < D∧g < w.heap.size∧l.length≤cap∧cap≤maxLen∧w.cell? ⟨g,i,none⟩=some (.int .i64 (l.getD i 0))∧w.frozen? ⟨g,i,none⟩=false:=by
 rcases h with ⟨_,rfl⟩ | ⟨g,cap,cur,hv,hb,hd,hg,h1,h2,h3,h4⟩
 ·cases hi
 ·exact ⟨g,cap,hv,hb,hd,(Array.getElem?_eq_some_iff.1 hg).1,h1,h2,(cellB hg).trans (h4 i hi),freeB hg⟩
theorem RowI.set {w:World} {B D g cap n:Nat} {l:List Int} (h:RowI w B D (.slice (some ⟨g,0,none⟩) n cap) l) {i:Nat} (hi:i < l.length) (x:Int):RowI (w.setCell ⟨g,i,none⟩ (.int .i64 x)) B D (.slice (some ⟨g,0,none⟩) n cap) (l.set i x):=by
 rcases h with ⟨hv,_⟩ | ⟨g',cap',cur,hv,hb,hd,hg,h1,h2,h3,h4⟩
 ·simp at hv
 ·simp only [Value.slice.injEq,Option.some.injEq,Addr.mk.injEq,and_true] at hv
  obtain ⟨rfl,rfl,rfl⟩:=hv
  refine .inr ⟨g,cap,cur.setIfInBounds i (.int .i64 x),by simp,hb,hd,setB hg _,by simpa using h1,h2,by simpa using h3,fun j hj=>?_⟩
  rw [List.length_set] at hj
  by_cases e:i=j
  ·subst e
   simp [List.getD,hj,show i < cur.size by omega]
  ·rw [Array.getElem?_setIfInBounds_ne e,h4 j hj]
   simp [List.getD,e]
theorem RowI.out {w w':World} {B D B' D':Nat} {v:Value} {l:List Int} (h:RowI w B D v l) (k:Out B' D' w w') (hd:D≤B'∨D'≤B):RowI w' B D v l :=
 h.kept (fun j h0 h1 h2=>by rcases hd with hd | hd;exact k.below.block j (by omega);exact k.block j (by omega) h0)
end Go.Proofs.Ytggmjiddadjilao
