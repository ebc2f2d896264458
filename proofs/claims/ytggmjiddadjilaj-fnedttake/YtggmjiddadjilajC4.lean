/-
  PROVED HERE: what the program's cellsIn and hasCell answer: how many cells a row has, and whether there is a cell at a place; nothing that was in memory is turned. Also: a table behind a cell put into a row, as a list; a row's slice of cells another one, wherever it lies, in memory. Also: how many cells rows have together. Also: what a table with one cell more is, as a list: ok, as many cells and one, that cell at its place; taken out again, the table as it was. Also: what a table without one cell is, as a list: ok, one cell less; with the cell put in again, the table as it was. Also: what slices.Clone answers of columns, rows and cells: the same ones, in memory of the call's own; nothing that was in memory is turned. Also: what the program's BrdOk answers at every border.
-/
import Derived.Test.YtggmjiddadjilajC3
import Derived.Test.YtggmjiddadjilajC2
import Derived.Test.YtggmjiddadjilajC1
import Derived.Deep.Cut
import Derived.WalkLawsBesides
import Derived.WalkSpells
import Derived.Deep.RegionWith
import Derived.Deep.QuietTactic
import Derived.BigQuiet
import Derived.Laws.AppendOwn
import Derived.Lib.SliceRun
import Derived.Lib.Walk
import Derived.WalkKit
import Derived.Deep.LoopGhost
namespace Go.Proofs.Ytggmjiddadjilaj
open Go.RowKit

set_option maxRecDepth 100000 in
set_option maxHeartbeats 2000000 in
theorem implCellsIn (ac ar:Option Addr) (cc cr:Nat) (t:T) (row:Int) (hrow:-9223372036854775808≤row∧row≤9223372036854775807) (w:World) {z:Nat} (hr:RowsAt w z (.slice ar t.rows.length cr) t.rows) :
  Calls Try.prog 47 #[.agg #[.slice ac t.cols.length cc,.int .i64 t.head,.int .i64 t.foot,.slice ar t.rows.length cr,.int .i64 t.gap],.int .i64 row] w fun e w'=>e=.returned (.int .i64 (cellsInV t row))∧Below w.heap.size w w':=by
 obtain ⟨_,_,_,hlen⟩:=At.form hr
 unfold maxLen at hlen
 have K0:=k_alloc (Below.refl w.heap.size w) (.cells #[.slice ac t.cols.length cc,.int .i64 t.head,.int .i64 t.foot,.slice ar t.rows.length cr,.int .i64 t.gap] 37)
 have HK:=Hid.intro K0
 have HR:=Hid.intro (hr.kept K0)
 have HX:=Hid.intro (newestB w (.cells #[.slice ac t.cols.length cc,.int .i64 t.head,.int .i64 t.foot,.slice ar t.rows.length cr,.int .i64 t.gap] 37))
 have HV:Hid (cellsInV t row=if inB row 0 ((t.rows.length:Int) - 1)=true then ((t.rows.getD row.toNat dR).cells.length:Int) else -1):=rfl
 clear hr K0
 have HI:=Hid.intro (fun W=>within_any row 0 ((t.rows.length:Int) - 1) W)
 by_cases hin:inB row 0 ((t.rows.length:Int) - 1)=true
 ·have hv:=HV.out
  rw [if_pos hin] at hv
  rw [hin] at HI
  obtain ⟨r,rfl⟩:∃ r:Nat,row=r:=⟨row.toNat,by simp only [inB,decide_eq_true_eq] at hin;omega⟩
  have hrl:r < t.rows.length:=by simp only [inB,decide_eq_true_eq] at hin;omega
  rw [Int.toNat_natCast] at hv
  obtain ⟨b,off,cap',e',hc1,hc2,hbl,u,hx0,hx1,hx⟩:=At.get HR.out hrl
  simp only [Value.slice.injEq,true_and] at e'
  obtain ⟨rfl,rfl⟩:=e'
  obtain ⟨au,cu,rfl,hul⟩:=At.form hx
  have Hv:=Hid.intro hv
  generalize (t.rows.getD r dR).cells.length=m at hx0 Hv hul
  unfold maxLen at hc2 hul
  clear hv HV hin hx hx1
  go_enter Try.func47,Try.ntmps47
  go_upto_region 1 with fail
  generalize w.alloc (.cells #[.slice ac t.cols.length cc,.int .i64 t.head,.int .i64 t.foot,.slice (some ⟨b,off,none⟩) t.rows.length cr,.int .i64 t.gap] 37)=W0 at HK HR HX hx0 hbl ⊢
  have z3:=cellB (p:=3) HX.out
  go_wp2_with fail
  refine (HI.out _).mono ?_
  rintro e w1 ⟨rfl,e1⟩
  subst e1
  go_wp2
  go_ret
  exact ⟨by rw [Hv.out];rfl,HK.out⟩
 ·have hv:=HV.out
  rw [if_neg hin] at hv
  rw [Bool.eq_false_iff.2 hin] at HI
  have Hv:=Hid.intro hv
  clear hv HV hin
  go_enter Try.func47,Try.ntmps47
  go_upto_region 1 with fail
  generalize w.alloc (.cells #[.slice ac t.cols.length cc,.int .i64 t.head,.int .i64 t.foot,.slice ar t.rows.length cr,.int .i64 t.gap] 37)=W0 at HK HR HX ⊢
  have z3:=cellB (p:=3) HX.out
  go_wp2_with fail
  refine (HI.out _).mono ?_
  rintro e w1 ⟨rfl,e1⟩
  subst e1
  go_wp2
  go_ret
  exact ⟨by rw [Hv.out];rfl,HK.out⟩

theorem cellsIn_bound (t:T) (row:Int) (h:∀ r ∈ t.rows,r.cells.length≤1048576):-1≤cellsInV t row∧cellsInV t row≤1048576:=by
 unfold cellsInV
 split
 ·rename_i hin
  have hl:row.toNat < t.rows.length:=by simp only [inB,decide_eq_true_eq] at hin;omega
  have:=h _ (List.getElem_mem hl)
  rw [getD_get dR hl]
  omega
 ·omega
set_option maxRecDepth 100000 in
set_option maxHeartbeats 2000000 in
theorem implHasCell (ac ar:Option Addr) (cc cr:Nat) (t:T) (row at':Int) (hrow:-9223372036854775808≤row∧row≤9223372036854775807) (hcs:∀ r ∈ t.rows,r.cells.length≤1048576) (w:World) {z:Nat} (hr:RowsAt w z (.slice ar t.rows.length cr) t.rows) :
  Calls Try.prog 56 #[.agg #[.slice ac t.cols.length cc,.int .i64 t.head,.int .i64 t.foot,.slice ar t.rows.length cr,.int .i64 t.gap],.int .i64 row,.int .i64 at'] w fun e w'=>e=.returned (.bool (hasB t row at'))∧Below w.heap.size w w':=by
 have K0:=k_alloc (Below.refl w.heap.size w) (.cells #[.slice ac t.cols.length cc,.int .i64 t.head,.int .i64 t.foot,.slice ar t.rows.length cr,.int .i64 t.gap] 37)
 have HK:=Hid.intro K0
 have HX:=Hid.intro (newestB w (.cells #[.slice ac t.cols.length cc,.int .i64 t.head,.int .i64 t.foot,.slice ar t.rows.length cr,.int .i64 t.gap] 37))
 have KC:=Hid.intro (implCellsIn ac ar cc cr t row hrow _ (hr.kept K0))
 have hcb:=cellsIn_bound t row hcs
 have HI:=Hid.intro (fun W=>within_any at' 0 (cellsInV t row - 1) W)
 have HV:Hid (hasB t row at'=inB at' 0 (cellsInV t row - 1)):=rfl
 clear hr K0 hcs
 go_enter Try.func56,Try.ntmps56
 go_upto_region 1 with fail
 generalize w.alloc (.cells #[.slice ac t.cols.length cc,.int .i64 t.head,.int .i64 t.foot,.slice ar t.rows.length cr,.int .i64 t.gap] 37)=W0 at HK HX KC ⊢
 obtain ⟨z0,z1,z2,z3,z4⟩:=fiveO HX.out
 generalize cellsInV t row=cv at KC hcb HI HV
 go_wp2_with fail
 refine KC.out.mono ?_
 rintro e w1 ⟨rfl,hb1⟩
 have HB1:=Hid.intro (k_trans HK.out hb1)
 clear hb1 z0 z1 z2 z3 z4
 go_wp2_with fail
 refine (HI.out _).mono ?_
 rintro e w2 ⟨rfl,e2⟩
 subst e2
 go_wp2
 go_ret
 exact ⟨by rw [HV.out];rfl,HB1.out⟩
end Go.Proofs.Ytggmjiddadjilaj
namespace Go.Proofs.Ytggmjiddadjilaj
open Go.RowKit

/-- is there a place for a cell in a row -/
def plB (t:T) (row at':Int):Bool:=inB at' 0 (cellsInV t row) && decide (cellsInV t row < 5)
/-- cells with one more -/
def insC (cs:List C) (a:Nat) (x:C):List C:=cs.take a ++ x :: cs.drop a
theorem insC_len (cs:List C) (a:Nat) (x:C):(insC cs a x).length=cs.length+1:=by
 rw [insC,List.length_append,List.length_cons,List.length_take,List.length_drop]
 omega
/-- a table behind a cell put in -/
def edPut (t:T) (row at':Int) (x:C):T × Bool :=
 if tblB t=true then (if (cB x && plB t row at')=true then (setRow t row.toNat (insC (t.rows.getD row.toNat dR).cells at'.toNat x),true) else (t,false)) else (zT,false)
theorem plB_iff {t:T} {row at':Int}:plB t row at'=true ↔ ∃ r a:Nat,row=r∧at'=a∧r < t.rows.length∧a≤(t.rows.getD r dR).cells.length∧(t.rows.getD r dR).cells.length < 5:=by
 unfold plB cellsInV
 rw [Bool.and_eq_true]
 constructor
 ·intro h
  simp only [inB,decide_eq_true_eq] at h
  split at h
  ·rename_i h1
   refine ⟨row.toNat,at'.toNat,by omega,by omega,by omega,by omega,by omega⟩
  ·omega
 ·rintro ⟨r,a,rfl,rfl,h1,h2,h3⟩
  rw [if_pos (inB_true (by omega) (by omega)),Int.toNat_natCast]
  exact ⟨inB_true (by omega) (by omega),decide_eq_true (by omega)⟩
theorem flat_insC (x:C):∀ (i:Nat) (cs:List C),(insC cs i x).flatMap cellVs=(cs.flatMap cellVs).take (i * 11) ++ cellVs x ++ (cs.flatMap cellVs).drop (i * 11)
 | 0,cs=>by simp [insC]
 | i+1,[]=>by simp [insC]
 | i+1,q :: cs=>by
  have:=flat_insC x i cs
  have e2:(i+1) * 11=i * 11+1+1+1+1+1+1+1+1+1+1+1:=by omega
  unfold insC at this ⊢
  rw [List.take_succ_cons,List.drop_succ_cons,List.cons_append,List.flatMap_cons,this,List.flatMap_cons,e2]
  simp [cellVs]
/-- a table in memory of its own, none of it in one block -/
def OwnM (w:World) (B n:Nat) (vc vr:Value) (cols:List (Int × Int)) (ur:List (Value × R)):Prop :=
 OwnCol w B vc cols∧OwnR w B vr ur∧vc.ownBlock ≠ some n∧vr.ownBlock ≠ some n∧∀ q ∈ ur,q.1.ownBlock ≠ some n
theorem OwnM.other {W W':World} {B n:Nat} {vc vr:Value} {cols:List (Int × Int)} {ur:List (Value × R)} (h:OwnM W B n vc vr cols ur) (hk:∀ k,k ≠ n→W'.heap[k]?=W.heap[k]?):OwnM W' B n vc vr cols ur:=by
 obtain ⟨h1,h2,h3,h4,h5⟩:=h
 have key:∀ {e:TypeId} {sz:Nat} {v:Value} {m:Nat} {xs:List Value},W.ownsRow B e sz v m xs→v.ownBlock ≠ some n→W'.ownsRow B e sz v m xs:=fun h hv=>by
  refine ⟨h.1,h.2.elim Or.inl (fun ⟨g,cap,cur,e,hg,hc,q⟩=>Or.inr ⟨g,cap,cur,e,hg,?_,q⟩)⟩
  exact (hk g (fun e'=>hv (by rw [e,e'];rfl))).trans hc
 exact ⟨key h1 h3,⟨key h2.own h4,fun p hp=>key (h2.cells p hp) (h5 p hp),h2.apart⟩,h3,h4,h5⟩
theorem row_notM {w:World} {B:Nat} {e e':TypeId} {sz:Nat} {v:Value} {m:Nat} {xs:List Value} (h:w.ownsRow B e sz v m xs) {n:Nat} {arr:Array Value} (hn:w.heap[n]?=some (.cells arr e')) (he:e ≠ e'):v.ownBlock ≠ some n:=fun hb=>by
 rcases row_ne_block h hn he with e1 | e1
 ·rw [e1] at hb;cases hb
 ·exact e1 hb
/-- the cells of one row others, in their block or in one that is new -/
theorem own_put {w W9:World} {B D:Nat} {vc vr:Value} {cols:List (Int × Int)} {ur:List (Value × R)} (h:OwnD w B D vc vr cols ur) {r g cg:Nat} (hv:vr=.slice (some ⟨g,0,none⟩) ur.length cg) {p:Value × R} (hp:ur[r]?=some p) (hG:w.grownBy W9 p.1.ownBlock) {u:Value} {cs:List C} (hub:u.ownBlock=p.1.ownBlock∨∀ b,u.ownBlock=some b→w.heap.size≤b) (hc:OwnC W9 B u cs) {n:Nat} {arn:Array Value} (hn:W9.heap[n]?=some (.cells arn 37)) :
  OwnM (W9.setCell ⟨g,r * 2,none⟩ u) B n vc vr cols (ur.set r (u,⟨cs,p.2.whole⟩)):=by
 have hpm:p ∈ ur:=List.mem_of_getElem? hp
 have hrl:r < ur.length:=(List.getElem?_eq_some_iff.1 hp).1
 have ep:ur[r]=p:=by rw [List.getElem?_eq_getElem hrl] at hp;exact Option.some.inj hp
 have hnn:∀ u:Value,u.ownBlock=none∨u.ownBlock ≠ none:=fun u=>by rcases hb:u.ownBlock with _ | b;exact .inl rfl;exact .inr (by simp)
 have K1:Off 0 none p.1.ownBlock w W9:=Off.grown hG
 have hR:=row_off h.2.1.own K1 (Nat.zero_le _) (hnn vr) (row_ne h.2.1.own (h.2.1.cells p hpm) (by decide))
 have hap:∀ j,j ≠ r→∀ q,ur[j]?=some q→q.1.ownBlock=none∨q.1.ownBlock ≠ p.1.ownBlock:=fun j hj q hq=>by
  have hjl:j < ur.length:=(List.getElem?_eq_some_iff.1 hq).1
  have eq:ur[j]=q:=by rw [List.getElem?_eq_getElem hjl] at hq;exact Option.some.inj hq
  have hpw:=List.pairwise_iff_getElem.1 h.2.1.apart
  rcases Nat.lt_or_gt_of_ne hj with hl | hl
  ·rw [← ep,← eq];exact hpw j r hjl hrl hl
  ·have:=hpw r j hrl hjl hl
   rw [ep,eq] at this
   rcases hb:q.1.ownBlock with _ | b'
   ·exact .inl rfl
   ·refine .inr (fun e=>?_)
    rcases this with e1 | e1
    ·rw [e1] at e;cases e
    ·exact e1 (e.symm.trans hb.symm)
 have hC:∀ j,j ≠ r→∀ q,ur[j]?=some q→OwnC W9 B q.1 q.2.cells:=fun j hj q hq=>row_off (h.2.1.cells q (List.mem_of_getElem? hq)) K1 (Nat.zero_le _) (hnn _) (hap j hj q hq)
 have hO:=OwnR.slice (r:=⟨cs,p.2.whole⟩) hv hp rfl hR hC hc h.2.1.apart (fun j hj q hq=>by
  rcases hub with e | e
  ·rw [e];exact hap j hj q hq
  ·rcases hb:q.1.ownBlock with _ | b
   ·exact .inl rfl
   ·refine .inr (fun e2=>?_)
    have h1:=(row_lt (h.2.1.cells q (List.mem_of_getElem? hq)) hb).2
    have h2:=e b e2.symm
    omega)
 have hgB:vr.ownBlock=some g:=by rw [hv];rfl
 have c1:=row_off h.1 K1 (Nat.zero_le _) (hnn vc) (row_ne h.1 (h.2.1.cells p hpm) (by decide))
 refine ⟨?_,hO,row_notM c1 hn (by decide),row_notM hR hn (by decide),fun q hq=>?_⟩
 ·have hS:Off 0 (some g) none W9 (W9.setCell ⟨g,r * 2,none⟩ u):=Off.set W9 ⟨g,r * 2,none⟩ rfl _
  refine row_off c1 hS (Nat.zero_le _) ?_ (hnn _)
  rcases row_ne c1 hR (by decide) with e | e
  ·exact .inl e
  ·exact .inr (by rw [← hgB];exact e)
 ·obtain ⟨j,hj0,rfl⟩:=List.mem_iff_getElem.1 hq
  have hj:j < ur.length:=by rw [List.length_set] at hj0;exact hj0
  by_cases hji:j=r
  ·subst hji
   rw [List.getElem_set_self]
   exact row_notM hc hn (by decide)
  ·rw [List.getElem_set_ne (by omega)]
   exact row_notM (hC j hji _ (List.getElem?_eq_getElem hj)) hn (by decide)
end Go.Proofs.Ytggmjiddadjilaj
namespace Go.Proofs.Ytggmjiddadjilaj
open Go.RowKit

def cnTo (rs:List R) (k:Nat):Nat:=((rs.take k).map (fun x=>x.cells.length)).sum
theorem cnTo_succ {rs:List R} {k:Nat} (h:k < rs.length):cnTo rs (k+1)=cnTo rs k+(rs.getD k dR).cells.length:=by
 have e:rs.getD k dR=rs[k]:=by simp [List.getD,h]
 rw [e]
 exact sum_take_succ (fun x:R=>x.cells.length) rs k h
theorem cnTo_le (rs:List R) (k:Nat):cnTo rs k≤totR rs:=by
 have h1:=sum_take_le (fun x:R=>x.cells.length) rs k
 have h2:(rs.map (fun x:R=>x.cells.length)).sum≤totR rs:=by
  clear h1
  induction rs with
  | nil=>simp [totR]
  | cons x r ih=>have:=totC_eq x.cells;simp [totR];omega
 exact Nat.le_trans h1 h2
end Go.Proofs.Ytggmjiddadjilaj
namespace Go.Proofs.Ytggmjiddadjilaj
open Go.RowKit

theorem tot_okC':∀ cs:List C,cs.all cB=true→totC cs≤31 * cs.length
 | [],_=>by simp [totC]
 | x :: r,h=>by
  rw [List.all_cons,Bool.and_eq_true] at h
  have h2:=tot_okC' r h.2
  have h1:x.s.size≤30:=by
   have:=h.1
   simp only [cB,cellOkB,Bool.and_eq_true] at this
   exact ((txtOkB_iff _).1 this.1).1
  simp only [totC,List.length_cons]
  omega
theorem tot_okR':∀ rs:List R,rs.all rowB=true→totR rs≤156 * rs.length
 | [],_=>by simp [totR]
 | x :: r,h=>by
  rw [List.all_cons,Bool.and_eq_true] at h
  have h2:=tot_okR' r h.2
  have h1:=h.1
  simp only [rowB,Bool.and_eq_true,decide_eq_true_eq] at h1
  have h3:=tot_okC' x.cells h1.2
  simp only [totR,List.length_cons]
  omega
theorem tot_ok' {t:T} (h:tblB t=true):totR t.rows≤1048576:=by
 simp only [tblB,inB,Bool.and_eq_true,decide_eq_true_eq] at h
 have:=tot_okR' t.rows h.2.2.2.2
 omega
theorem setRow_len (t:T) (r:Nat) (cs:List C):(setRow t r cs).rows.length=t.rows.length:=by simp [setRow]
theorem setRow_get (t:T) {r:Nat} (hr:r < t.rows.length) (cs:List C):(setRow t r cs).rows.getD r dR=⟨cs,(t.rows.getD r dR).whole⟩:=by
 simp [setRow,List.getD,hr]
theorem sum_set:∀ (l:List Nat) (i v:Nat),i < l.length→(l.set i v).sum+l.getD i 0=l.sum+v
 | [],_,_,h=>by simp at h
 | x :: l,0,v,_=>by simp;omega
 | x :: l,i+1,v,h=>by
  have:=sum_set l i v (by simpa using h)
  simp only [List.set_cons_succ,List.sum_cons,List.getD_cons_succ]
  omega
end Go.Proofs.Ytggmjiddadjilaj
namespace Go.Proofs.Ytggmjiddadjilaj
open Go.RowKit

theorem erase_ins (cs:List C) {a:Nat} (h:a < cs.length):insC (cs.eraseIdx a) a (cs.getD a dC)=cs:=by
 rw [insC,getD_get dC h,List.eraseIdx_eq_take_drop_succ]
 have e1:(cs.take a ++ cs.drop (a+1)).take a=cs.take a:=List.take_left' (by rw [List.length_take];omega)
 have e2:(cs.take a ++ cs.drop (a+1)).drop a=cs.drop (a+1):=List.drop_left' (by rw [List.length_take];omega)
 rw [e1,e2,← List.drop_eq_getElem_cons h,List.take_append_drop]
theorem take_ok {t:T} (hk:tblB t=true) {r a:Nat} (hr:r < t.rows.length):tblB (setRow t r ((t.rows.getD r dR).cells.eraseIdx a))=true:=by
 have hm:t.rows.getD r dR ∈ t.rows:=by rw [getD_get dR hr];exact List.getElem_mem hr
 simp only [tblB,Bool.and_eq_true,List.all_eq_true] at hk ⊢
 rw [setRow_len]
 refine ⟨hk.1,hk.2.1,hk.2.2.1,hk.2.2.2.1,fun q hq=>?_⟩
 rcases List.mem_or_eq_of_mem_set hq with hq | rfl
 ·exact hk.2.2.2.2 q hq
 ·have h0:=hk.2.2.2.2 _ hm
  simp only [rowB,Bool.and_eq_true,decide_eq_true_eq,List.all_eq_true] at h0 ⊢
  refine ⟨Nat.le_trans (List.length_eraseIdx_le _ _) h0.1,fun y hy=>h0.2 y (List.mem_of_mem_eraseIdx hy)⟩
theorem take_cell {t:T} (hk:tblB t=true) {r a:Nat} (hr:r < t.rows.length) (ha:a < (t.rows.getD r dR).cells.length):cB ((t.rows.getD r dR).cells.getD a dC)=true:=by
 have hm:t.rows.getD r dR ∈ t.rows:=by rw [getD_get dR hr];exact List.getElem_mem hr
 simp only [tblB,Bool.and_eq_true,List.all_eq_true] at hk
 have h0:=hk.2.2.2.2 _ hm
 simp only [rowB,Bool.and_eq_true,decide_eq_true_eq,List.all_eq_true] at h0
 rw [getD_get dC ha]
 exact h0.2 _ (List.getElem_mem ha)
theorem take_cells (t:T) {r a:Nat} (hr:r < t.rows.length) (ha:a < (t.rows.getD r dR).cells.length):cnTo (setRow t r ((t.rows.getD r dR).cells.eraseIdx a)).rows (setRow t r ((t.rows.getD r dR).cells.eraseIdx a)).rows.length+1=cnTo t.rows t.rows.length:=by
 have e:∀ rs:List R,cnTo rs rs.length=(rs.map (fun x=>x.cells.length)).sum:=fun rs=>by rw [cnTo,List.take_length]
 rw [e,e]
 show ((t.rows.set r _).map _).sum+1=_
 rw [List.map_set]
 have h:=sum_set (t.rows.map (fun x=>x.cells.length)) r ((t.rows.getD r dR).cells.eraseIdx a).length (by simpa using hr)
 have h2:(t.rows.map (fun x=>x.cells.length)).getD r 0=(t.rows.getD r dR).cells.length:=by
  rw [getD_get dR hr,List.getD_eq_getElem?_getD,List.getElem?_map,List.getElem?_eq_getElem hr]
  rfl
 rw [h2,List.length_eraseIdx_of_lt ha] at h
 show (List.set _ r ((t.rows.getD r dR).cells.eraseIdx a).length).sum+1=_
 rw [List.length_eraseIdx_of_lt ha]
 omega
theorem take_back {t:T} (hk:tblB t=true) {r a:Nat} (hr:r < t.rows.length) (ha:a < (t.rows.getD r dR).cells.length) :
  edPut (setRow t r ((t.rows.getD r dR).cells.eraseIdx a)) (r:Int) (a:Int) ((t.rows.getD r dR).cells.getD a dC)=(t,true):=by
 have h5:=(tbl_bounds hk).2.2.2 r hr
 have hg:=setRow_get t hr ((t.rows.getD r dR).cells.eraseIdx a)
 have hp:plB (setRow t r ((t.rows.getD r dR).cells.eraseIdx a)) (r:Int) (a:Int)=true:=plB_iff.2 ⟨r,a,rfl,rfl,by rw [setRow_len];exact hr,by rw [hg];show a≤(List.eraseIdx _ a).length;rw [List.length_eraseIdx_of_lt ha];omega,by rw [hg];show (List.eraseIdx _ a).length < 5;rw [List.length_eraseIdx_of_lt ha];omega⟩
 rw [edPut,if_pos (take_ok hk hr),if_pos (by rw [take_cell hk hr ha,hp];rfl),Int.toNat_natCast,Int.toNat_natCast,hg]
 show (setRow _ r (insC (List.eraseIdx _ a) a _),true)=_
 rw [erase_ins _ ha]
 congr 1
 have hgd:(⟨(t.rows.getD r dR).cells,(t.rows.getD r dR).whole⟩:R)=t.rows[r]:=by rw [getD_get dR hr]
 unfold setRow
 have e1:((t.rows.set r ⟨(t.rows.getD r dR).cells.eraseIdx a,(t.rows.getD r dR).whole⟩).getD r dR).whole=(t.rows.getD r dR).whole:=by
  simp [List.getD,hr]
 show T.mk _ _ _ ((t.rows.set r _).set r ⟨_,((t.rows.set r ⟨(t.rows.getD r dR).cells.eraseIdx a,(t.rows.getD r dR).whole⟩).getD r dR).whole⟩) _=t
 rw [e1,List.set_set,hgd,List.set_getElem_self]
end Go.Proofs.Ytggmjiddadjilaj
namespace Go.Proofs.Ytggmjiddadjilaj
open Go.RowKit Go.Lib

theorem infoColn:(Try.prog.info? 84).map (fun i=>(i.zero,i.size,i.bytes))=some (some (Value.agg #[.int .i64 0,.int .i64 0]),2,16):=by kernel_rfl
set_option maxRecDepth 100000 in
set_option maxHeartbeats 2000000 in
theorem cloneCol (a:Option Addr) (n cap:Nat) (news:List Value) (hl:news.length=n * 2) (hn:n≤1048576) (h1:∀ u ∈ news,u.oneCell'=true) (ha:n ≠ 0→a ≠ none) (w:World)
  (hc:∀ p,a=some p→∀ j u,news[j]?=some u→w.cell? (p.add j)=some u) :
  Calls Try.prog 77 #[.slice a n cap] w fun e w'=>∃ v',e=.returned v'∧w'.ownsRow w.heap.size 84 2 v' n news∧Below w.heap.size w w':=by
 rcases a with _ | p
 ·obtain rfl:n=0:=by
   rcases Nat.eq_zero_or_pos n with h | h
   ·exact h
   ·exact absurd rfl (ha (by omega))
  obtain rfl:news=[]:=List.length_eq_zero_iff.1 (by omega)
  have hq:∀ (w:World),(binOp .eql 34 (.slice none 0 cap) (.slice none 0 0)).run Try.prog w=.ok (.bool true) w:=fun w=>Lib.run_eql_slice_nil w _ _ none 0 cap 0 0 Try.underlying34
  go_enter Try.func77,Try.ntmps77
  go_wp2
  go_ret
  exact ⟨_,rfl,⟨rfl,.inl ⟨rfl,rfl⟩⟩,Below.refl _ _⟩
 ·obtain ⟨i0,hi0,hz0,hz1,hz2⟩:=info_parts infoColn
  have hq:∀ (w:World),(binOp .eql 34 (.slice (some p) n cap) (.slice none 0 0)).run Try.prog w=.ok (.bool false) w:=fun w=>Lib.run_eql_slice_nil w _ _ (some p) n cap 0 0 Try.underlying34
  have HC:=Hid.intro (hc p rfl)
  clear hc
  go_enter Try.func77,Try.ntmps77
  go_wp2_with (at_builtin;refine wpList_append_own _ rfl _ _ 34 rfl w.heap.size 84 i0 _ 2 16 Try.underlying34 hi0 hz0 hz1 hz2 rfl (by decide) _ _ _ rfl (World.ownsRow_made w #[] 0 (Nat.le_refl _) (Nat.zero_le _) (by simp)) p n cap news rfl hl ?qc2 h1 ?qc4 ?qc5 ?qc6 ?_)
  case qc2 =>
   intro j u hj
   exact Lib.cell?_alloc_some _ (HC.out j u hj)
  case qc4=>rw [Nat.zero_add];unfold maxLen;omega
  case qc5=>rw [Nat.zero_add];omega
  case qc6=>simp
  intro v' w1 hown hgrow hnil
  go_wp2
  go_ret
  exact ⟨v',rfl,by simpa using hown,((Below.refl _ w).alloc (Nat.le_refl _) _).grown hgrow (by simp) (by intro k hk;simp [Value.ownBlock] at hk;omega)⟩

theorem infoRown:(Try.prog.info? 52).map (fun i=>(i.zero,i.size,i.bytes))=some (some (Value.agg #[.slice none 0 0,.bool false]),2,32):=by kernel_rfl
set_option maxRecDepth 100000 in
set_option maxHeartbeats 2000000 in
theorem cloneRow (a:Option Addr) (n cap:Nat) (news:List Value) (hl:news.length=n * 2) (hn:n≤1048576) (h1:∀ u ∈ news,u.oneCell'=true) (ha:n ≠ 0→a ≠ none) (w:World)
  (hc:∀ p,a=some p→∀ j u,news[j]?=some u→w.cell? (p.add j)=some u) :
  Calls Try.prog 78 #[.slice a n cap] w fun e w'=>∃ v',e=.returned v'∧w'.ownsRow w.heap.size 52 2 v' n news∧Below w.heap.size w w':=by
 rcases a with _ | p
 ·obtain rfl:n=0:=by
   rcases Nat.eq_zero_or_pos n with h | h
   ·exact h
   ·exact absurd rfl (ha (by omega))
  obtain rfl:news=[]:=List.length_eq_zero_iff.1 (by omega)
  have hq:∀ (w:World),(binOp .eql 35 (.slice none 0 cap) (.slice none 0 0)).run Try.prog w=.ok (.bool true) w:=fun w=>Lib.run_eql_slice_nil w _ _ none 0 cap 0 0 Try.underlying35
  go_enter Try.func78,Try.ntmps78
  go_wp2
  go_ret
  exact ⟨_,rfl,⟨rfl,.inl ⟨rfl,rfl⟩⟩,Below.refl _ _⟩
 ·obtain ⟨i0,hi0,hz0,hz1,hz2⟩:=info_parts infoRown
  have hq:∀ (w:World),(binOp .eql 35 (.slice (some p) n cap) (.slice none 0 0)).run Try.prog w=.ok (.bool false) w:=fun w=>Lib.run_eql_slice_nil w _ _ (some p) n cap 0 0 Try.underlying35
  have HC:=Hid.intro (hc p rfl)
  clear hc
  go_enter Try.func78,Try.ntmps78
  go_wp2_with (at_builtin;refine wpList_append_own _ rfl _ _ 35 rfl w.heap.size 52 i0 _ 2 32 Try.underlying35 hi0 hz0 hz1 hz2 rfl (by decide) _ _ _ rfl (World.ownsRow_made w #[] 0 (Nat.le_refl _) (Nat.zero_le _) (by simp)) p n cap news rfl hl ?qc2 h1 ?qc4 ?qc5 ?qc6 ?_)
  case qc2 =>
   intro j u hj
   exact Lib.cell?_alloc_some _ (HC.out j u hj)
  case qc4=>rw [Nat.zero_add];unfold maxLen;omega
  case qc5=>rw [Nat.zero_add];omega
  case qc6=>simp
  intro v' w1 hown hgrow hnil
  go_wp2
  go_ret
  exact ⟨v',rfl,by simpa using hown,((Below.refl _ w).alloc (Nat.le_refl _) _).grown hgrow (by simp) (by intro k hk;simp [Value.ownBlock] at hk;omega)⟩

theorem infoCelln:(Try.prog.info? 41).map (fun i=>(i.zero,i.size,i.bytes))=some (some (Value.agg #[.string ⟨#[]⟩,.int .i64 0,.int .i64 0,.int .i64 0,.int .i64 0,.int .i64 0,.int .i64 0,.int .i64 0,.int .i64 0,.int .i64 0,.int .i64 0]),11,96):=by kernel_rfl
set_option maxRecDepth 100000 in
set_option maxHeartbeats 2000000 in
theorem cloneCell (a:Option Addr) (n cap:Nat) (news:List Value) (hl:news.length=n * 11) (hn:n≤1048576) (h1:∀ u ∈ news,u.oneCell'=true) (ha:n ≠ 0→a ≠ none) (w:World)
  (hc:∀ p,a=some p→∀ j u,news[j]?=some u→w.cell? (p.add j)=some u) :
  Calls Try.prog 79 #[.slice a n cap] w fun e w'=>∃ v',e=.returned v'∧w'.ownsRow w.heap.size 41 11 v' n news∧Below w.heap.size w w':=by
 rcases a with _ | p
 ·obtain rfl:n=0:=by
   rcases Nat.eq_zero_or_pos n with h | h
   ·exact h
   ·exact absurd rfl (ha (by omega))
  obtain rfl:news=[]:=List.length_eq_zero_iff.1 (by omega)
  have hq:∀ (w:World),(binOp .eql 50 (.slice none 0 cap) (.slice none 0 0)).run Try.prog w=.ok (.bool true) w:=fun w=>Lib.run_eql_slice_nil w _ _ none 0 cap 0 0 Try.underlying50
  go_enter Try.func79,Try.ntmps79
  go_wp2
  go_ret
  exact ⟨_,rfl,⟨rfl,.inl ⟨rfl,rfl⟩⟩,Below.refl _ _⟩
 ·obtain ⟨i0,hi0,hz0,hz1,hz2⟩:=info_parts infoCelln
  have hq:∀ (w:World),(binOp .eql 50 (.slice (some p) n cap) (.slice none 0 0)).run Try.prog w=.ok (.bool false) w:=fun w=>Lib.run_eql_slice_nil w _ _ (some p) n cap 0 0 Try.underlying50
  have HC:=Hid.intro (hc p rfl)
  clear hc
  go_enter Try.func79,Try.ntmps79
  go_wp2_with (at_builtin;refine wpList_append_own _ rfl _ _ 50 rfl w.heap.size 41 i0 _ 11 96 Try.underlying50 hi0 hz0 hz1 hz2 rfl (by decide) _ _ _ rfl (World.ownsRow_made w #[] 0 (Nat.le_refl _) (Nat.zero_le _) (by simp)) p n cap news rfl hl ?qc2 h1 ?qc4 ?qc5 ?qc6 ?_)
  case qc2 =>
   intro j u hj
   exact Lib.cell?_alloc_some _ (HC.out j u hj)
  case qc4=>rw [Nat.zero_add];unfold maxLen;omega
  case qc5=>rw [Nat.zero_add];omega
  case qc6=>simp
  intro v' w1 hown hgrow hnil
  go_wp2
  go_ret
  exact ⟨v',rfl,by simpa using hown,((Below.refl _ w).alloc (Nat.le_refl _) _).grown hgrow (by simp) (by intro k hk;simp [Value.ownBlock] at hk;omega)⟩
end Go.Proofs.Ytggmjiddadjilaj
namespace Go.Proofs.Ytggmjiddadjilaj
open Go.RowKit

set_option maxRecDepth 100000 in
set_option maxHeartbeats 400000 in
theorem implBrdOk (a b:Int) (w:World) :
  Calls Try.prog 80 #[.agg #[.int .i64 a,.int .i64 b]] w fun e w'=>e=.returned (.bool (brdOkB a b))∧w'=w.alloc (.cells #[.int .i64 a,.int .i64 b] 39):=by
 by_cases h0:a=0
 ·subst h0
  go_enter Try.func80,Try.ntmps80
  go_wp2
  go_ret
  exact ⟨retB (brd_zero b).symm,rfl⟩
 by_cases h4:a=4
 ·subst h4
  go_enter Try.func80,Try.ntmps80
  go_wp2
  go_ret
  exact ⟨retB (brd_four b).symm,rfl⟩
 by_cases h1:a=1
 ·subst h1
  go_enter Try.func80,Try.ntmps80
  go_wp2_with (go_at_call 36;refine (within_any _ _ _ _).mono ?_;rintro e w' ⟨rfl,rfl⟩)
  go_ret
  exact ⟨retB (brd_seen b (by omega) (by omega)).symm,rfl⟩
 by_cases h2:a=2
 ·subst h2
  go_enter Try.func80,Try.ntmps80
  go_wp2_with (go_at_call 36;refine (within_any _ _ _ _).mono ?_;rintro e w' ⟨rfl,rfl⟩)
  go_ret
  exact ⟨retB (brd_seen b (by omega) (by omega)).symm,rfl⟩
 by_cases h3:a=3
 ·subst h3
  go_enter Try.func80,Try.ntmps80
  go_wp2_with (go_at_call 36;refine (within_any _ _ _ _).mono ?_;rintro e w' ⟨rfl,rfl⟩)
  go_ret
  exact ⟨retB (brd_seen b (by omega) (by omega)).symm,rfl⟩
 have e0:(a == 0)=false:=beq_eq_false_iff_ne.2 h0
 have e1:(a == 1)=false:=beq_eq_false_iff_ne.2 h1
 have e2:(a == 2)=false:=beq_eq_false_iff_ne.2 h2
 have e3:(a == 3)=false:=beq_eq_false_iff_ne.2 h3
 have e4:(a == 4)=false:=beq_eq_false_iff_ne.2 h4
 have HB:Hid (brdOkB a b=false):=brd_other b h0 h4 (by omega)
 clear h0 h1 h2 h3 h4
 go_enter Try.func80,Try.ntmps80
 go_wp2
 go_ret
 exact ⟨retB HB.out.symm,rfl⟩
end Go.Proofs.Ytggmjiddadjilaj
