/-
  PROVED HERE: a region that draws its order, whose own operations only read and whose callees turn nothing that was in memory, may be walked once, in its text's order. Also: what the model's l3Meets and l3Free answer; nothing that was in memory is turned. Also: what a border that is ok is, as a Bool. Also: what a cell that is ok is, as a Bool. Also: what a column of which something may be said is, as a Bool. Also: what a table that is ok is, as a Bool. Also: the part of a row of a table. Also: what the model's l1Max, l2Part and l2End answer; cells of a grid that a call owns lie in memory. Also: the drawing of a text (l20Text, l20AnyText) gives some short string, and turns nothing that was in memory but the reader.
-/
import Derived.Test.YtcbibdhlkdcmiafGreatB1
import Derived.Test.YtcbibdhlkdcmiafGreatB6
import Derived.Test.YtcbibdhlkdcmiafGreatB5
import Derived.Deep.QuietTactic
import Derived.BigQuiet
import Derived.WalkKit
import Derived.ProofKit
import Derived.WalkLawsBesides
import Derived.WalkSpells
import Derived.Below
import Derived.Lib.SmallJoins
import Derived.Lib.Strings
import Derived.Deep.RegionWith
namespace Go.Proofs.YtcbibdhlkdcmiafGreat
open Go.RowKit

/-- a world in which what was in memory is as it was -/
structure BW (w:World) where
 u:World
 h:Below w.heap.size w u
theorem bw_some (w:World):Nonempty (BW w):=⟨⟨w,Below.refl _ _⟩⟩
theorem wp_region_quiet_below {P:Program} {id:Nat} {Q:Exit→Act→World→Prop} {a:Act} {w:World} {l:List Oper} (hm:P.follows .mixedOrders=true) (hB:Region.lexB .any l.toArray=true)
  (h:wpQuiet P l.toArray (fun w'=>∃ p:BW w,w'=p.u) (fun a'=>∀ w',(∃ p:BW w,w'=p.u)→Q .normal a' w') l a):(Code.region id l.toArray true).wp P Q a w :=
 wp_region_quiet (C:=fun w'=>∃ p:BW w,w'=p.u) hm hB ⟨⟨_,k_drew (Below.refl _ _)⟩,rfl⟩ (by simpa using h)
theorem bw_of {P:Program} {f:FuncId} {args:Array Value} {w:World} {p:BW w} {v:Value} (h:Calls P f args p.u fun e w'=>e=.returned v∧Below p.u.heap.size p.u w') :
  Calls P f args p.u fun e w''=>e=.returned v∧∃ p:BW w,w''=p.u :=
 h.mono fun _ _ ⟨he,hb⟩=>⟨he,⟨_,k_trans p.h hb⟩,rfl⟩
theorem bw_same {P:Program} {f:FuncId} {args:Array Value} {w:World} {p:BW w} {v:Value} (h:Calls P f args p.u fun e w'=>e=.returned v∧w'=p.u) :
  Calls P f args p.u fun e w''=>e=.returned v∧∃ p:BW w,w''=p.u :=
 h.mono fun _ _ ⟨he,hb⟩=>⟨he,p,hb⟩
theorem bw_cell {w:World} {a:Addr} {v:Value} (hb:a.block < w.heap.size) (h:w.cell? a=some v) (p:BW w):p.u.cell? a=some v:=(p.h.cell hb).trans h
end Go.Proofs.YtcbibdhlkdcmiafGreat
namespace Go.Proofs.YtcbibdhlkdcmiafGreat
open Go.RowKit Go.BigFrame

/-- no number of a cell is great -/
def Sm (x:GC):Prop:=(0≤x.row∧x.row≤100000)∧(0≤x.col∧x.col≤100000)∧(0≤x.rows∧x.rows≤100000)∧(0≤x.cols∧x.cols≤100000)
theorem GsAt.take {w:World} {z:Nat} {ac:Option Addr} {cc:Nat} {gs:List GC} (h:GsAt w z (.slice ac gs.length cc) gs) {k:Nat} (hk:k≤gs.length):GsAt w z (.slice ac (gs.take k).length cc) (gs.take k):=by
 obtain ⟨a,cap,e,h1,h2,hx⟩:=h
 simp only [Value.slice.injEq,true_and] at e
 obtain ⟨rfl,rfl⟩:=e
 have hl:(gs.take k).length=k:=by rw [List.length_take];omega
 refine ⟨_,_,rfl,by omega,h2,fun i hi=>?_⟩
 obtain ⟨b,off,ea,hb,hz,he⟩:=hx i (by omega)
 have e:(gs.take k).getD i dG=gs.getD i dG:=by simp [List.getD,show i < k by omega]
 exact ⟨b,off,ea,hb,hz,by dsimp only;rw [e];exact he⟩

def gcA (x:GC):Value:=.agg #[.int .i64 x.row,.int .i64 x.col,.int .i64 x.rows,.int .i64 x.cols,.int .i64 x.ins]
set_option maxRecDepth 100000 in
set_option maxHeartbeats 1000000 in
theorem l3Meets_any (a b:GC) (ha:Sm a) (hb:Sm b) (w:World) :
  Calls Tryz.prog 115 #[.agg #[.int .i64 a.row,.int .i64 a.col,.int .i64 a.rows,.int .i64 a.cols,.int .i64 a.ins],.agg #[.int .i64 b.row,.int .i64 b.col,.int .i64 b.rows,.int .i64 b.cols,.int .i64 b.ins]] w fun e w'=>e=.returned (.bool (meetsB a b))∧Below w.heap.size w w':=by
 obtain ⟨a0,a1,a2,a3⟩:=ha
 obtain ⟨b0,b1,b2,b3⟩:=hb
 by_cases h1:a.row < b.row+b.rows
 ·by_cases h2:b.row < a.row+a.rows
  ·by_cases h3:a.col < b.col+b.cols
   ·have HE:Hid (meetsB a b=decide (b.col < a.col+a.cols)):=by
     show meetsB a b=_
     simp only [meetsB,h1,h2,h3,decide_true,Bool.true_and]
    go_enter Tryz.func115,Tryz.ntmps115
    go_wp2
    go_ret
    exact ⟨retB HE.out.symm,k_alloc (k_alloc (Below.refl _ _) _) _⟩
   ·have HE:Hid (meetsB a b=false):=by
     show meetsB a b=_
     simp only [meetsB,h3,decide_false,Bool.false_and,Bool.and_false]
    go_enter Tryz.func115,Tryz.ntmps115
    go_wp2
    go_ret
    exact ⟨retB HE.out.symm,k_alloc (k_alloc (Below.refl _ _) _) _⟩
  ·have HE:Hid (meetsB a b=false):=by
    show meetsB a b=_
    simp only [meetsB,h2,decide_false,Bool.false_and,Bool.and_false]
   go_enter Tryz.func115,Tryz.ntmps115
   go_wp2
   go_ret
   exact ⟨retB HE.out.symm,k_alloc (k_alloc (Below.refl _ _) _) _⟩
 ·have HE:Hid (meetsB a b=false):=by
   show meetsB a b=_
   simp only [meetsB,h1,decide_false,Bool.false_and]
  go_enter Tryz.func115,Tryz.ntmps115
  go_wp2
  go_ret
  exact ⟨retB HE.out.symm,k_alloc (k_alloc (Below.refl _ _) _) _⟩

theorem freeG_hit {gs:List GC} {x:GC} {k:Nat} (hk:k < gs.length) (h:meetsB (gs.getD k dG) x=true):freeG gs x=false:=by
 cases h2:freeG gs x with
 | false=>rfl
 | true =>
  have e:gs.getD k dG=gs[k]:=by simp [List.getD,hk]
  have:=List.all_eq_true.1 h2 gs[k] (List.getElem_mem hk)
  rw [← e,h] at this
  cases this
theorem freeG_all {gs:List GC} {x:GC} (h:∀ j,j < gs.length→meetsB (gs.getD j dG) x=false):freeG gs x=true:=by
 refine List.all_eq_true.2 (fun a ha=>?_)
 obtain ⟨i,hi,rfl⟩:=List.mem_iff_getElem.1 ha
 have:=h i hi
 have e:gs.getD i dG=gs[i]:=by simp [List.getD,hi]
 rw [e] at this
 rw [this];rfl

set_option maxRecDepth 100000 in
set_option maxHeartbeats 1000000 in
theorem l3Free_any (ac:Option Addr) (cc:Nat) (gs:List GC) (hgs:∀ a ∈ gs,Sm a) (x:GC) (hxs:Sm x) (w:World) {z:Nat} (h:GsAt w z (.slice ac gs.length cc) gs) :
  Calls Tryz.prog 86 #[.slice ac gs.length cc,.agg #[.int .i64 x.row,.int .i64 x.col,.int .i64 x.rows,.int .i64 x.cols,.int .i64 x.ins]] w fun e w'=>e=.returned (.bool (freeG gs x))∧Below w.heap.size w w':=by
 obtain ⟨_,_,_,hlen⟩:=At.form h
 unfold maxLen at hlen
 have K0:=Hid.intro (k_alloc (Below.refl w.heap.size w) (.cells #[.int .i64 x.row,.int .i64 x.col,.int .i64 x.rows,.int .i64 x.cols,.int .i64 x.ins] 50))
 have H:=Hid.intro h
 have HG:=Hid.intro hgs
 have HXS:=Hid.intro hxs
 have hmx:Tryz.prog.follows .mixedOrders=true:=by kernel_rfl
 clear h hgs hxs
 go_enter Tryz.func86,Tryz.ntmps86
 go_wp2_with fail
 go_loopw [5] (fun i W=>∃ k:Nat,k≤gs.length∧i=.int .i64 k∧Hid (∀ j,j < k→meetsB (gs.getD j dG) x=false)∧Hid (Below w.heap.size w W)∧Hid (W.heap[w.heap.size]?=some (.cells #[.int .i64 x.row,.int .i64 x.col,.int .i64 x.rows,.int .i64 x.cols,.int .i64 x.ins] 50))) (fun i _=>gs.length - (intOf i).toNat)
 case atStart=>exact ⟨0,Nat.zero_le _,rfl,fun j hj=>absurd hj (Nat.not_lt_zero _),K0.out,newestB _ _⟩
 case round =>
  obtain ⟨k,hk,rfl,HA,HB,HX⟩:=hrel
  have hz:w.heap.size < wr.heap.size:=(Array.getElem?_eq_some_iff.1 HX.out).1
  by_cases hlt:k < gs.length
  ·have hlt':(k:Int) < (gs.length:Int):=by omega
   have h0':(0:Int)≤(k:Int):=by omega
   obtain ⟨q,off,cap',e',hc1,hc2,hbl,hx,hs⟩:=At.get (H.out.kept HB.out) hlt
   simp only [Value.slice.injEq,true_and] at e'
   obtain ⟨rfl,rfl⟩:=e'
   have HH:Hid (meetsB (gs.getD k dG) x=true→freeG gs x=false):=fun hp=>freeG_hit hlt hp
   have HN:Hid (meetsB (gs.getD k dG) x=false→∀ j,j < k+1→meetsB (gs.getD j dG) x=false):=fun hp j hj=>by
    rcases Nat.lt_or_eq_of_le (Nat.lt_succ_iff.1 hj) with h1 | rfl
    ·exact HA.out j h1
    ·exact hp
   have HS:Sm (gs.getD k dG):=by
    have e:gs.getD k dG=gs[k]:=by simp [List.getD,hlt]
    rw [e]
    exact HG.out _ (List.getElem_mem hlt)
   have HL:=Hid.intro (l3Meets_any (gs.getD k dG) x HS HXS.out)
   clear HS hs
   generalize gs.getD k dG=y at hx HH HN HL
   obtain ⟨x0,x1,x2,x3,x4⟩:=hx
   have y0:=bw_cell (a:=⟨q,off+k * 5,none⟩) hbl x0
   have y1:=bw_cell (a:=⟨q,off+k * 5+1,none⟩) hbl x1
   have y2:=bw_cell (a:=⟨q,off+k * 5+2,none⟩) hbl x2
   have y3:=bw_cell (a:=⟨q,off+k * 5+3,none⟩) hbl x3
   have y4:=bw_cell (a:=⟨q,off+k * 5+4,none⟩) hbl x4
   have b0:=bw_cell (a:=⟨w.heap.size,0,none⟩) (v:=.int .i64 x.row) hz (cellB HX.out)
   have b1:=bw_cell (a:=⟨w.heap.size,1,none⟩) (v:=.int .i64 x.col) hz (cellB HX.out)
   have b2:=bw_cell (a:=⟨w.heap.size,2,none⟩) (v:=.int .i64 x.rows) hz (cellB HX.out)
   have b3:=bw_cell (a:=⟨w.heap.size,3,none⟩) (v:=.int .i64 x.cols) hz (cellB HX.out)
   have b4:=bw_cell (a:=⟨w.heap.size,4,none⟩) (v:=.int .i64 x.ins) hz (cellB HX.out)
   unfold maxLen at hc2
   clear x0 x1 x2 x3 x4
   go_wp2_with fail
   have hne:=bw_some wr
   refine wp_region_quiet_below hmx (by kernel_rfl) ?_
   repeat (go_big_quiet_step (refine bw_of (HL.out _)))
   refine wpQuiet_nil ?_
   intro _ hw'
   obtain ⟨⟨W7,hW7⟩,hw''⟩:=hw'
   subst hw''
   have HB7:=Hid.intro (k_trans HB.out hW7)
   have HX7:=Hid.intro ((hW7.block w.heap.size hz).trans HX.out)
   clear y0 y1 y2 y3 y4 b0 b1 b2 b3 b4 hW7
   cases h1:meetsB y x with
   | false =>
    have HF:=Hid.intro (HN.out h1)
    clear HH HN HA h1
    go_wp2
    go_roundw
    case rel=>exact ⟨k+1,by omega,by go_num,HF,HB7,HX7⟩
    case measure=>simp [intOf];omega
   | true =>
    have HF:=Hid.intro (HH.out h1)
    clear HH HN HA h1
    go_wp2
    go_ret
    exact ⟨retB HF.out.symm,HB7.out⟩
  ·obtain rfl:k=gs.length:=by omega
   have HF:=Hid.intro (freeG_all HA.out)
   clear HA
   go_wp2
   go_ret
   exact ⟨retB HF.out.symm,HB.out⟩
end Go.Proofs.YtcbibdhlkdcmiafGreat
namespace Go.Proofs.YtcbibdhlkdcmiafGreat
open Go.RowKit

def brdOkB (a b:Int):Bool:=decide ((a=0∨a=4)∧b=0∨(1≤a∧a≤3)∧1≤b∧b≤3)
theorem brd_zero (b:Int):brdOkB 0 b=(b == 0):=by rw [Bool.eq_iff_iff];simp [brdOkB]
theorem brd_four (b:Int):brdOkB 4 b=(b == 0):=by rw [Bool.eq_iff_iff];simp [brdOkB];
theorem brd_seen {a:Int} (b:Int) (h1:1≤a) (h2:a≤3):brdOkB a b=inB b 1 3:=by rw [Bool.eq_iff_iff];simp [brdOkB,inB];omega
theorem brd_other {a:Int} (b:Int) (h0:a ≠ 0) (h4:a ≠ 4) (h:¬ (1≤a∧a≤3)):brdOkB a b=false:=by simp [brdOkB];omega
end Go.Proofs.YtcbibdhlkdcmiafGreat
namespace Go.Proofs.YtcbibdhlkdcmiafGreat
open Go.RowKit

def cellOkB (s:ByteArray) (c r a1 b1 a2 b2 a3 b3 a4 b4:Int):Bool:=txtOkB s && (inB c 1 4 && (inB r 1 4 && (brdOkB a1 b1 && (brdOkB a2 b2 && (brdOkB a3 b3 && brdOkB a4 b4)))))
theorem Hid.mk {p:Prop} (h:p):Hid p:=h
end Go.Proofs.YtcbibdhlkdcmiafGreat
namespace Go.Proofs.YtcbibdhlkdcmiafGreat
open Go.RowKit

def colB (k n:Int):Bool:=decide (k=0∧n=0∨k=1∧0≤n∧n≤60∨k=2∧1≤n∧n≤100)
theorem colB_0 (n:Int):colB 0 n=inB n 0 0:=by rw [Bool.eq_iff_iff];simp [colB,inB];omega
theorem colB_0' (n:Int):colB 0 n=(n == 0):=by rw [Bool.eq_iff_iff];simp [colB]
theorem colB_1 (n:Int):colB 1 n=inB n 0 60:=by rw [Bool.eq_iff_iff];simp [colB,inB]
theorem colB_2 (n:Int):colB 2 n=inB n 1 100:=by rw [Bool.eq_iff_iff];simp [colB,inB]
theorem colB_no {k:Int} (n:Int) (h0:k ≠ 0) (h1:k ≠ 1) (h2:k ≠ 2):colB k n=false:=by simp [colB];omega
end Go.Proofs.YtcbibdhlkdcmiafGreat
namespace Go.Proofs.YtcbibdhlkdcmiafGreat
open Go.RowKit

def cB (x:C):Bool:=cellOkB x.s x.c x.r x.a1 x.b1 x.a2 x.b2 x.a3 x.b3 x.a4 x.b4
def rowB (r:R):Bool:=decide (r.cells.length≤5) && r.cells.all cB
def colsB (ps:List (Int × Int)):Bool:=decide (ps.length≤8) && ps.all (fun p=>colB p.1 p.2)
def partsB (n:Nat) (hd ft:Int):Bool:=inB hd 0 n && inB ft 0 (n - hd)
theorem all_true {α:Type} (d:α) (p:α→Bool) (l:List α) (h:∀ j,j < l.length→p (l.getD j d)=true):l.all p=true:=by
 rw [List.all_eq_true]
 intro x hx
 obtain ⟨j,hj,rfl⟩:=List.getElem_of_mem hx
 have e:l.getD j d=l[j]:=by simp [List.getD,hj]
 rw [← e];exact h j hj
theorem all_false {α:Type} (d:α) (p:α→Bool) (l:List α) (k:Nat) (hk:k < l.length) (h:p (l.getD k d)=false):l.all p=false:=by
 have e:l.getD k d=l[k]:=by simp [List.getD,hk]
 rw [e] at h
 cases hb:l.all p with
 | false=>rfl
 | true=>rw [List.all_eq_true.1 hb _ (List.getElem_mem hk)] at h;cases h
theorem next_true {α:Type} {d:α} {p:α→Bool} {l:List α} {k:Nat} (h:∀ j,j < k→p (l.getD j d)=true) (hk:p (l.getD k d)=true):∀ j,j < k+1→p (l.getD j d)=true:=by
 intro j hj
 rcases Nat.lt_or_eq_of_le (Nat.lt_succ_iff.1 hj) with h1 | h1
 ·exact h j h1
 ·rw [h1];exact hk
def tblB (t:T):Bool:=inB t.rows.length 1 8 && (partsB t.rows.length t.head t.foot && (inB t.gap 0 3 && (colsB t.cols && t.rows.all rowB)))
theorem newestO (w:World) (q:Obj):(w.alloc q).heap[w.heap.size]?=some q:=by show (w.heap.push q)[w.heap.size]?=_;simp
theorem fiveO {w:World} {g:Nat} {x0 x1 x2 x3 x4:Value} {t:TypeId} (h:w.heap[g]?=some (.cells #[x0,x1,x2,x3,x4] t)) :
  w.cell? ⟨g,0,none⟩=some x0∧w.cell? ⟨g,1,none⟩=some x1∧w.cell? ⟨g,2,none⟩=some x2∧w.cell? ⟨g,3,none⟩=some x3∧w.cell? ⟨g,4,none⟩=some x4 :=
 ⟨Joins.cell_of_block h 0,Joins.cell_of_block h 1,Joins.cell_of_block h 2,Joins.cell_of_block h 3,Joins.cell_of_block h 4⟩
end Go.Proofs.YtcbibdhlkdcmiafGreat
namespace Go.Proofs.YtcbibdhlkdcmiafGreat
open Go.RowKit

def partOf (t:T) (q:Int):Int:=if tblB t=true∧inB q 0 (t.rows.length - 1)=true then (if q < t.head then 0 else if t.rows.length - t.foot≤q then 2 else 1) else -1
theorem retIP {a b:Int} (h:a=b):Ending.returned (.int .i64 a)=.returned (.int .i64 b):=by rw [h]
theorem tblB_bounds {t:T} (h:tblB t=true):(1≤t.rows.length∧t.rows.length≤8)∧(0≤t.head∧t.head≤t.rows.length)∧0≤t.foot∧t.foot≤t.rows.length:=by
 simp only [tblB,partsB,Bool.and_eq_true] at h
 have h1:(1:Int)≤t.rows.length∧(t.rows.length:Int)≤8:=of_decide_eq_true h.1
 have h2:0≤t.head∧t.head≤t.rows.length:=of_decide_eq_true h.2.1.1
 have h3:0≤t.foot∧t.foot≤t.rows.length - t.head:=of_decide_eq_true h.2.1.2
 omega
end Go.Proofs.YtcbibdhlkdcmiafGreat
namespace Go.Proofs.YtcbibdhlkdcmiafGreat
open Go.RowKit

theorem l1Max_any (a b:Int) (w:World):Calls Tryz.prog 84 #[.int .i64 a,.int .i64 b] w fun e w'=>e=.returned (.int .i64 (max a b))∧w'=w:=by
 by_cases h:b < a
 ·have HE:Hid (max a b=a):=Hid.intro (by omega)
  go_enter Tryz.func84,Tryz.ntmps84
  go_wp2
  go_ret
  exact ⟨retI64 HE.out.symm,rfl⟩
 ·have HE:Hid (max a b=b):=Hid.intro (by omega)
  go_enter Tryz.func84,Tryz.ntmps84
  go_wp2
  go_ret
  exact ⟨retI64 HE.out.symm,rfl⟩
set_option maxRecDepth 100000 in
set_option maxHeartbeats 1000000 in
theorem l2End_any (ac ar:Option Addr) (cc cr:Nat) (t:T) (hb:t.rows.length≤8∧0≤t.foot∧t.foot≤t.rows.length) (r:Nat) (w:World) :
  Calls Tryz.prog 85 #[.agg #[.slice ac t.cols.length cc,.int .i64 t.head,.int .i64 t.foot,.slice ar t.rows.length cr,.int .i64 t.gap],.int .i64 (r:Int)] w fun e w'=>e=.returned (.int .i64 (endOf t r))∧Below w.heap.size w w':=by
 obtain ⟨h1,h2,h3⟩:=hb
 by_cases c1:(r:Int) < t.head
 ·have HE:Hid (endOf t r=t.head):=Hid.intro (by unfold endOf;rw [if_pos c1])
  go_enter Tryz.func85,Tryz.ntmps85
  go_wp2
  go_ret
  exact ⟨retI64 HE.out.symm,by repeat (first | exact Below.refl _ _ | apply k_alloc)⟩
 ·by_cases c2:(t.rows.length:Int) - t.foot≤r
  ·have HE:Hid (endOf t r=t.rows.length):=Hid.intro (by unfold endOf;rw [if_neg c1,if_pos c2])
   go_enter Tryz.func85,Tryz.ntmps85
   go_wp2
   go_ret
   exact ⟨retI64 HE.out.symm,by repeat (first | exact Below.refl _ _ | apply k_alloc)⟩
  ·have HE:Hid (endOf t r=t.rows.length - t.foot):=Hid.intro (by unfold endOf;rw [if_neg c1,if_neg c2])
   go_enter Tryz.func85,Tryz.ntmps85
   go_wp2
   go_ret
   exact ⟨retI64 HE.out.symm,by repeat (first | exact Below.refl _ _ | apply k_alloc)⟩
/-- a cell's five cells -/
def gcVs (x:GC):List Value:=[.int .i64 x.row,.int .i64 x.col,.int .i64 x.rows,.int .i64 x.cols,.int .i64 x.ins]
def OwnG (w:World) (base:Nat) (v:Value) (gs:List GC):Prop:=w.ownsRow base 50 5 v gs.length (gs.flatMap gcVs)
theorem OwnG.at {w:World} {base:Nat} {v:Value} {gs:List GC} (h:OwnG w base v gs) (hs:∀ x ∈ gs,GOk x):GsAt w base v gs:=by
 rcases h.2 with ⟨rfl,hn⟩ | ⟨g,cap,cur,rfl,hg,hc,h1,h2,_⟩
 ·exact ⟨none,0,by rw [hn],by omega,by unfold maxLen;omega,fun i hi=>by omega⟩
 ·refine ⟨_,cap,rfl,h1,h2,fun i hi=>⟨g,0,rfl,(Array.getElem?_eq_some_iff.1 hc).1,hg,?_,?_⟩⟩
  ·have hx:∀ j,j < 5→w.cell? ⟨g,i * 5+j,none⟩=(gcVs gs[i])[j]?:=fun j hj=>by
    have e:=flat_get gcVs 5 (fun _=>rfl) gs i hi j hj
    rw [row_cell h (u:=(gcVs gs[i])[j]'(by show j < 5;exact hj)) (by rw [e];simp)]
    simp
   rw [getD_get dG hi,Nat.zero_add]
   exact ⟨hx 0 (by omega),hx 1 (by omega),hx 2 (by omega),hx 3 (by omega),hx 4 (by omega)⟩
  ·rw [getD_get dG hi]
   exact hs _ (List.getElem_mem hi)
theorem Stands.gok {n:Nat} {a:GC} (hn:n≤8) (h:Stands n a):GOk a:=by
 unfold Stands at h
 unfold GOk I64
 omega
theorem Stands.sm {n:Nat} {a:GC} (hn:n≤8) (h:Stands n a):Sm a:=by
 unfold Stands at h
 unfold Sm
 omega
theorem infoGC:(Tryz.prog.info? 50).map (fun i=>(i.zero,i.size,i.bytes))=some (some (Value.agg #[.int .i64 0,.int .i64 0,.int .i64 0,.int .i64 0,.int .i64 0]),5,40):=by kernel_rfl
end Go.Proofs.YtcbibdhlkdcmiafGreat
namespace Go.Proofs.YtcbibdhlkdcmiafGreat
open Go.RowKit

theorem lit7 (s0 s1 s2 s3 s4 s5 s6:ByteArray) (n:Nat) (h:s0.size≤n∧s1.size≤n∧s2.size≤n∧s3.size≤n∧s4.size≤n∧s5.size≤n∧s6.size≤n) (k:Int) (h0:0≤k) (h1:k < 7) :
  ∃ v:ByteArray,v.size≤n∧(#[Value.string s0,.string s1,.string s2,.string s3,.string s4,.string s5,.string s6]:Array Value)[k.toNat]?=some (.string v)∧∀ h,([Value.string s0,.string s1,.string s2,.string s3,.string s4,.string s5,.string s6]:List Value)[k.toNat]'h=.string v:=by
 rcases (by omega:k=0∨k=1∨k=2∨k=3∨k=4∨k=5∨k=6) with rfl | rfl | rfl | rfl | rfl | rfl | rfl
 ·exact ⟨s0,h.1,rfl,fun _=>rfl⟩
 ·exact ⟨s1,h.2.1,rfl,fun _=>rfl⟩
 ·exact ⟨s2,h.2.2.1,rfl,fun _=>rfl⟩
 ·exact ⟨s3,h.2.2.2.1,rfl,fun _=>rfl⟩
 ·exact ⟨s4,h.2.2.2.2.1,rfl,fun _=>rfl⟩
 ·exact ⟨s5,h.2.2.2.2.2.1,rfl,fun _=>rfl⟩
 ·exact ⟨s6,h.2.2.2.2.2.2,rfl,fun _=>rfl⟩
theorem toListNil {s:ByteArray} (h:s.size=0):s.toList=[]:=by
 rw [Lib.toList_data];exact List.eq_nil_of_length_eq_zero (by simpa using h)
theorem sizeNil {s:ByteArray} (h:s.toList=[]):s.size=0:=by
 rw [Lib.toList_data] at h;have:=congrArg List.length h;simpa using this
theorem three_size {s v:ByteArray} {q:Nat} (hs:s.size≤30) (hq:q≤s.size) (hv:v.size≤31):(s.extract 0 q ++ v ++ s.extract q s.size).size≤61:=by
 rw [ByteArray.size_append,ByteArray.size_append,ByteArray.size_extract,ByteArray.size_extract];omega
theorem newestT (w:World) (q:Obj):(w.alloc q).heap[w.heap.size]?=some q:=by show (w.heap.push q)[w.heap.size]?=_;simp

/-- the words that are drawn from, in the block g -/
def WordsAt (w:World) (g:Nat):Prop:=w.heap[g]?=some (.cells #[.string ⟨#[97]⟩,.string ⟨#[97,110]⟩,.string ⟨#[116,104,101]⟩,.string ⟨#[111,118,101,114]⟩,.string ⟨#[117,110,100,101,114]⟩,.string ⟨#[109,101,97,100,111,119]⟩,.string ⟨#[108,105,103,104,116,104,111,117,115,101]⟩] 9)

set_option maxRecDepth 100000 in
set_option maxHeartbeats 2000000 in
theorem l20Text_any (r B:Nat) (w:World) (h:Rd w r B) (hB:B≤900000) :
  Calls Tryz.prog 126 #[.pointer (some ⟨r,0,none⟩)] w fun e w'=>∃ s:ByteArray,e=.returned (.string s)∧s.size≤30∧Rd w' r (B+6)∧Bk r w w':=by
 have hlt:=h.lt
 have hr0:w.heap.size ≠ r:=by omega
 have HR:Hid (Rd w r B):=h
 clear h
 go_enter Tryz.func126,Tryz.ntmps126
 go_wp2_with fail
 refine (pick_any r B _ _ (Rd.alloc HR.out _) (by omega)).mono ?_
 rintro e w1 ⟨k1,rfl,hk1,hR1,hb1⟩
 obtain ⟨hk1a,hk1b⟩:=hk1 (by omega)
 have hz1:=hb1.size
 simp at hz1
 have W1:=Hid.intro ((hb1.block w.heap.size (by simp) hr0).trans (newestT _ _))
 have HR1:Hid (Rd w1 r (B+1)):=hR1
 have HB1:Hid (Bk r w w1):=Bk.trans (Bk.alloc (Bk.refl r w) _) hb1
 clear hk1 hR1 hb1
 have HW1:Hid (WordsAt w1 w.heap.size):=W1.out
 obtain ⟨q1,rfl⟩:=Int.eq_ofNat_of_zero_le hk1a
 clear W1
 go_wp2_with fail
 go_loopw [4,5,6] (fun s k _ W=>∃ (t:ByteArray) (q:Nat),s=.string t∧k=.int .i64 q∧t.size≤30∧q≤5∧w.heap.size+1≤W.heap.size∧Hid (Rd W r (B+6 - q))∧Hid (Bk r w W)∧Hid (WordsAt W w.heap.size)) (fun _ k _ _=>(intOf k).toNat)
 case atStart=>exact ⟨_,q1,rfl,rfl,by decide,by omega,by omega,Rd.mono HR1.out (by omega),HB1,HW1⟩
 case round =>
  obtain ⟨t,q,rfl,rfl,ht,hq,hsz,HRr,HBr,HWr⟩:=hrel
  by_cases hq0:q=0
  ·subst hq0
   go_wp2
   go_ret
   exact ⟨t,rfl,ht,HRr.out,HBr.out⟩
  ·have hq1:(0:Int) < (q:Int):=by omega
   go_wp2_with fail
   refine (pick_any r (B+6 - q) _ _ HRr.out (by omega)).mono ?_
   rintro e w2 ⟨k2,rfl,hk2,hR2,hb2⟩
   obtain ⟨hk2a,hk2b⟩:=hk2 (by omega)
   have W2:WordsAt w2 w.heap.size:=(hb2.block w.heap.size (by omega) hr0).trans HWr.out
   obtain ⟨v,hv,hl,_⟩:=lit7 ⟨#[97]⟩ ⟨#[97,110]⟩ ⟨#[116,104,101]⟩ ⟨#[111,118,101,114]⟩ ⟨#[117,110,100,101,114]⟩ ⟨#[109,101,97,100,111,119]⟩ ⟨#[108,105,103,104,116,104,111,117,115,101]⟩ 10 (by decide) k2 hk2a hk2b
   have hcv:w2.cell? ⟨w.heap.size,k2.toNat,none⟩=some (.string v):=(Joins.cell_of_block W2 _).trans hl
   have HW2:Hid (WordsAt w2 w.heap.size):=W2
   have HR2:Hid (Rd w2 r (B+6 - (q - 1))):=Rd.mono hR2 (by omega)
   have HB2:Hid (Bk r w w2):=Bk.trans HBr.out hb2
   have hz2:w.heap.size+1≤w2.heap.size:=by have:=hb2.size;omega
   clear hk2 hR2 hb2 W2 hl HRr HBr HWr
   by_cases h0:t.size=0
   ·have he:t.toList=[]:=toListNil h0
    go_wp2
    go_roundw
    case rel=>exact ⟨v,q - 1,rfl,by go_num,by omega,by omega,hz2,HR2,HB2,HW2⟩
    case measure=>simp [intOf];omega
   ·have he:¬ t.toList=[]:=fun h=>h0 (sizeNil h)
    have he2:t.toList.isEmpty=false:=by simpa using he
    by_cases h30:t.size+1+v.size≤30
    ·have h30':(t.size:Int)+1+(v.size:Int)≤30:=by omega
     go_wp2
     go_roundw
     case rel=>exact ⟨_,q - 1,rfl,by go_num,by rw [ByteArray.size_append,ByteArray.size_append];have:(ByteArray.mk #[32]).size=1:=rfl;omega,by omega,hz2,HR2,HB2,HW2⟩
     case measure=>simp [intOf];omega
    ·have h30':¬ (t.size:Int)+1+(v.size:Int)≤30:=by omega
     go_wp2
     go_roundw
     case rel=>exact ⟨t,q - 1,rfl,by go_num,ht,by omega,hz2,HR2,HB2,HW2⟩
     case measure=>simp [intOf];omega

set_option maxRecDepth 100000 in
set_option maxHeartbeats 2000000 in
theorem l20AnyText_any (r B:Nat) (n:Int) (hn:1≤n) (w:World) (h:Rd w r B) (hB:B≤800000) :
  Calls Tryz.prog 128 #[.pointer (some ⟨r,0,none⟩),.int .i64 n] w fun e w'=>∃ s:ByteArray,e=.returned (.string s)∧s.size≤61∧Rd w' r (B+9)∧Bk r w w':=by
 have hlt:=h.lt
 have HR:Hid (Rd w r B):=h
 clear h
 go_enter Tryz.func128,Tryz.ntmps128
 go_wp2_with fail
 refine (l20Text_any r B _ HR.out (by omega)).mono ?_
 rintro e w1 ⟨s,rfl,hs,hR1,hb1⟩
 have HR1:=Hid.intro hR1
 have HB1:=Hid.intro hb1
 have hz1:=hb1.size
 clear hR1 hb1
 go_wp2_with fail
 refine (pick_any r (B+6) _ _ HR1.out (by omega)).mono ?_
 rintro e w2 ⟨k2,rfl,hk2,hR2,hb2⟩
 obtain ⟨hk2a,hk2b⟩:=hk2 (by omega)
 have HR2:=Hid.intro hR2
 have HB2:=Hid.intro (Bk.trans HB1.out hb2)
 have hz2:=hb2.size
 clear hR2 hb2 hk2 HR1 HB1
 by_cases h2:0 < k2
 ·go_wp2
  go_ret
  exact ⟨s,rfl,by omega,Rd.mono HR2.out (by omega),HB2.out⟩
 ·go_wp2_with fail
  refine (pick_any r (B+7) _ _ HR2.out (by omega)).mono ?_
  rintro e w3 ⟨k3,rfl,hk3,hR3,hb3⟩
  obtain ⟨hk3a,hk3b⟩:=hk3 (by omega)
  obtain ⟨q,rfl⟩:=Int.eq_ofNat_of_zero_le hk3a
  have HR3:=Hid.intro hR3
  have HB3:=Hid.intro (Bk.trans HB2.out hb3)
  have hz3:=hb3.size
  clear hR3 hb3 hk3 HR2 HB2
  have hq:(q:Int)≤(s.size:Int):=by omega
  have hq':q≤s.size:=by omega
  go_wp2_with fail
  have hlr:w3.heap.size ≠ r:=by omega
  go_region_with (first
   | (go_at_call 68;refine (pick_any r (B+8) _ _ (Rd.drew (Rd.alloc HR3.out _)) (by omega)).mono ?_;rintro e w4 ⟨k4,rfl,hk4,hR4,hb4⟩;obtain ⟨hk4a,hk4b⟩:=hk4 (by omega);obtain ⟨v,hv,hl,_⟩:=lit7 ⟨#[32]⟩ ⟨#[32,32]⟩ ⟨#[65]⟩ ⟨#[49]⟩ ⟨#[45]⟩ ⟨#[0]⟩ ⟨#[97,98,99,100,101,102,103,104,105,106,97,98,99,100,101,102,103,104,105,106,97,98,99,100,101,102,103,104,105,106,120]⟩ 31 (by decide) k4 hk4a hk4b;have hcv:w4.cell? ⟨w3.heap.size,k4.toNat,none⟩=some (.string v):=(Joins.cell_of_block ((hb4.block w3.heap.size (by simp) hlr).trans (newestT _ _)) _).trans hl;have HR4:=Hid.intro hR4;have HB4:=Hid.intro (Bk.trans (Bk.drew (Bk.alloc HB3.out _)) hb4);clear hk4 hR4 hb4 hl)
   | (go_at_call 68;refine (pick_any r (B+8) _ _ (Rd.drew HR3.out) (by omega)).mono ?_;rintro e w4 ⟨k4,rfl,hk4,hR4,hb4⟩;obtain ⟨hk4a,hk4b⟩:=hk4 (by omega);obtain ⟨v,hv,hl,hge⟩:=lit7 ⟨#[32]⟩ ⟨#[32,32]⟩ ⟨#[65]⟩ ⟨#[49]⟩ ⟨#[45]⟩ ⟨#[0]⟩ ⟨#[97,98,99,100,101,102,103,104,105,106,97,98,99,100,101,102,103,104,105,106,97,98,99,100,101,102,103,104,105,106,120]⟩ 31 (by decide) k4 hk4a hk4b;have HR4:=Hid.intro hR4;have HB4:=Hid.intro (Bk.trans (Bk.drew HB3.out) hb4);clear hk4 hR4 hb4 hl))
  all_goals
   go_wp2
   go_ret
   exact ⟨_,rfl,three_size hs hq' hv,by first | exact HR4.out | exact Rd.alloc HR4.out _,by first | exact HB4.out | exact Bk.alloc HB4.out _⟩
end Go.Proofs.YtcbibdhlkdcmiafGreat
