/-
  PROVED HERE: how a table that is owned changes where one cell's place in memory is written; how many cells a row has; facts for the texts on edits. Also: bounds of a table that is ok, as lists. Also: how far a table's marks count; what stays of owned tables and boxes where others are marked: for the laws on edits. Also: a table behind another text of a cell, as a list; facts for the texts on edits. Also: a table that is owned, behind a write into one place of one of its cells. Also: a table behind a cell taken out of a row, as a list; a row's slice of cells another one, in memory. Also: what the program's cellsIn and hasCell answer: how many cells a row has, and whether there is a cell at a place; nothing that was in memory is turned. Also: a table behind a cell put into a row, as a list; a row's slice of cells another one, wherever it lies, in memory.
-/
import Derived.Test.YtggmjiddadjilajE21
import Derived.Test.YtggmjiddadjilajE7
import Derived.Test.YtggmjiddadjilajE6
import Derived.WalkLawsBesides
import Derived.WalkSpells
import Derived.Deep.RegionWith
import Derived.Deep.QuietTactic
import Derived.BigQuiet
import Derived.Deep.Cut
namespace Go.Proofs.Ytggmjiddadjilaj
open Go.RowKit

/-- nothing -/
def zT:T:=⟨[],0,0,[],0⟩
def cellsInV (t:T) (row:Int):Int:=if inB row 0 ((t.rows.length:Int) - 1)=true then ((t.rows.getD row.toNat dR).cells.length:Int) else -1
def hasB (t:T) (row at':Int):Bool:=inB at' 0 (cellsInV t row - 1)
theorem hasB_iff {t:T} {row at':Int}:hasB t row at'=true ↔ ∃ r a:Nat,row=r∧at'=a∧r < t.rows.length∧a < (t.rows.getD r dR).cells.length:=by
 unfold hasB cellsInV
 constructor
 ·intro h
  simp only [inB,decide_eq_true_eq] at h
  split at h
  ·rename_i h1
   refine ⟨row.toNat,at'.toNat,by omega,by omega,by omega,by omega⟩
  ·omega
 ·rintro ⟨r,a,rfl,rfl,h1,h2⟩
  rw [if_pos (inB_true (by omega) (by omega)),Int.toNat_natCast]
  exact inB_true (by omega) (by omega)
/-- one row's cells others -/
def setRow (t:T) (r:Nat) (cs:List C):T:=⟨t.cols,t.head,t.foot,t.rows.set r ⟨cs,(t.rows.getD r dR).whole⟩,t.gap⟩

theorem OwnC.put {w:World} {B:Nat} {g cap:Nat} {cs:List C} (h:OwnC w B (.slice (some ⟨g,0,none⟩) cs.length cap) cs) {a j:Nat} (ha:a < cs.length) (hj:j < 11) {x:C} {v:Value} (hx:cellVs x=(cellVs cs[a]).set j v) :
  OwnC (w.setCell ⟨g,a * 11+j,none⟩ v) B (.slice (some ⟨g,0,none⟩) cs.length cap) (cs.set a x):=by
 rcases h.2 with ⟨e,_⟩ | ⟨g',cap',cur,e,hg,hc,a1,a2,a3,a4⟩
 ·simp at e
 ·simp only [Value.slice.injEq,Option.some.injEq,Addr.mk.injEq,and_true,true_and] at e
  obtain ⟨rfl,rfl⟩:=e
  refine ⟨flat_len cellVs 11 (fun _=>rfl) _,.inr ⟨g,cap,cur.setIfInBounds (a * 11+j) v,by rw [List.length_set],hg,setB hc _,by rw [List.length_set];exact a1,a2,by rw [Array.size_setIfInBounds];exact a3,?_⟩⟩
  refine flat_take cellVs 11 (fun _=>rfl) (cs.set a x) (cur.setIfInBounds (a * 11+j) v) (by rw [List.length_set,Array.size_setIfInBounds,a3];omega) (fun i hi0 m hm=>?_)
  have hi:i < cs.length:=by rw [List.length_set] at hi0;exact hi0
  have hold:cur[i * 11+m]?=(cellVs cs[i])[m]?:=by
   have e:=flat_get cellVs 11 (fun _=>rfl) cs i hi m hm
   rw [← a4,List.getElem?_take_of_lt (by omega),Array.getElem?_toList] at e
   exact e
  by_cases hia:i=a
  ·subst hia
   rw [List.getElem_set_self,hx]
   by_cases hmj:m=j
   ·subst hmj
    rw [Array.getElem?_setIfInBounds_self_of_lt (by rw [a3];omega),List.getElem?_set_self (by show m < 11;exact hm)]
   ·rw [Array.getElem?_setIfInBounds_ne (by omega),List.getElem?_set_ne (by omega)]
    exact hold
  ·rw [List.getElem_set_ne (by omega),Array.getElem?_setIfInBounds_ne (by omega)]
   exact hold
/-- one row of a table that is owned: its cells others, in their block -/
theorem OwnR.upd {w w1:World} {base:Nat} {v:Value} {ur:List (Value × R)} (h:OwnR w base v ur) {i:Nat} {p:Value × R} (hi:ur[i]?=some p) {r:R} (hw:r.whole=p.2.whole) (hc:OwnC w1 base p.1 r.cells) (k:w.grownBy w1 p.1.ownBlock):OwnR w1 base v (ur.set i (p.1,r)):=by
 have hil:i < ur.length:=(List.getElem?_eq_some_iff.1 hi).1
 have ep:ur[i]=p:=by rw [List.getElem?_eq_getElem hil] at hi;exact Option.some.inj hi
 have hpm:p ∈ ur:=List.mem_of_getElem? hi
 have K1:Off 0 none p.1.ownBlock w w1:=Off.grown k
 have hnn:∀ u:Value,u.ownBlock=none∨u.ownBlock ≠ none:=fun u=>by rcases hb:u.ownBlock with _ | b;exact .inl rfl;exact .inr (by simp)
 have hne:v.ownBlock=none∨v.ownBlock ≠ p.1.ownBlock:=row_ne h.own (h.cells p hpm) (by decide)
 have h1:=row_off h.own K1 (Nat.zero_le _) (hnn v) hne
 have hfst:∀ j,(hj:j < ur.length)→((ur.set i (p.1,r))[j]'(by rw [List.length_set];exact hj)).1=ur[j].1:=fun j hj=>by
  by_cases hji:j=i
  ·subst hji
   rw [List.getElem_set_self,ep]
  ·rw [List.getElem_set_ne (by omega)]
 have hfl:(ur.set i (p.1,r)).flatMap rowVs=ur.flatMap rowVs:=by
  apply List.ext_getElem?
  intro q
  have l1:=flat_len rowVs 2 (fun _=>rfl) (ur.set i (p.1,r))
  have l2:=flat_len rowVs 2 (fun _=>rfl) ur
  rw [List.length_set] at l1
  by_cases hq:q < ur.length * 2
  ·have e:q=q / 2 * 2+q % 2:=by omega
   have b1:=flat_get rowVs 2 (fun _=>rfl) (ur.set i (p.1,r)) (q / 2) (by rw [List.length_set];omega) (q % 2) (by omega)
   have b2:=flat_get rowVs 2 (fun _=>rfl) ur (q / 2) (by omega) (q % 2) (by omega)
   rw [← e] at b1 b2
   rw [b1,b2]
   by_cases hji:q / 2=i
   ·subst hji
    rw [List.getElem_set_self,ep,rowVs,rowVs,hw]
   ·rw [List.getElem_set_ne (by omega)]
  ·rw [List.getElem?_eq_none (by omega),List.getElem?_eq_none (by omega)]
 refine ⟨?_,fun q hq=>?_,?_⟩
 ·rw [hfl,List.length_set]
  exact h1
 ·obtain ⟨j,hj0,rfl⟩:=List.mem_iff_getElem.1 hq
  have hj:j < ur.length:=by rw [List.length_set] at hj0;exact hj0
  by_cases hji:j=i
  ·subst hji
   rw [List.getElem_set_self]
   exact hc
  ·rw [List.getElem_set_ne (by omega)]
   have hap:ur[j].1.ownBlock=none∨ur[j].1.ownBlock ≠ p.1.ownBlock:=by
    have hp:=List.pairwise_iff_getElem.1 h.apart
    rcases Nat.lt_or_gt_of_ne hji with hl | hl
    ·rw [← ep];exact hp j i hj hil hl
    ·have:=hp i j hil hj hl
     rw [ep] at this
     rcases hb:ur[j].1.ownBlock with _ | b
     ·exact .inl rfl
     ·refine .inr (fun e=>?_)
      rcases this with e1 | e1
      ·rw [e1] at e;cases e
      ·exact e1 (e.symm.trans hb.symm)
   exact row_off (h.cells _ (List.getElem_mem hj)) K1 (Nat.zero_le _) (hnn _) hap
 ·rw [List.pairwise_iff_getElem]
  have hp:=List.pairwise_iff_getElem.1 h.apart
  intro a b ha0 hb0 hab
  have ha:a < ur.length:=by rw [List.length_set] at ha0;exact ha0
  have hb:b < ur.length:=by rw [List.length_set] at hb0;exact hb0
  rw [hfst a ha,hfst b hb]
  exact hp a b ha hb hab
theorem OwnC.atM {w:World} {base:Nat} {u:Value} {cs:List C} (h:OwnC w base u cs) (hs:∀ x ∈ cs,x.s.size≤maxLen):CellsAt w base u cs:=by
 rcases h.2 with ⟨rfl,hn⟩ | ⟨g,cap,cur,rfl,hg,hc,h1,h2,_⟩
 ·exact ⟨none,0,by rw [hn],by omega,by unfold maxLen;omega,fun i hi=>by omega⟩
 ·refine ⟨_,cap,rfl,h1,h2,fun i hi=>⟨g,0,rfl,(Array.getElem?_eq_some_iff.1 hc).1,hg,?_,?_⟩⟩
  ·have hx:∀ j,j < 11→w.cell? ⟨g,i * 11+j,none⟩=(cellVs cs[i])[j]?:=fun j hj=>by
    have e:=flat_get cellVs 11 (fun _=>rfl) cs i hi j hj
    rw [row_cell h (u:=(cellVs cs[i])[j]'(by show j < 11;exact hj)) (by rw [e];simp)]
    simp
   rw [getD_get dC hi,Nat.zero_add]
   exact ⟨hx 0 (by omega),hx 1 (by omega),hx 2 (by omega),hx 3 (by omega),hx 4 (by omega),hx 5 (by omega),hx 6 (by omega),hx 7 (by omega),hx 8 (by omega),hx 9 (by omega),hx 10 (by omega)⟩
  ·rw [getD_get dC hi]
   exact hs _ (List.getElem_mem hi)
theorem OwnR.atM {w:World} {base:Nat} {v:Value} {ur:List (Value × R)} (h:OwnR w base v ur) (hs:∀ p ∈ ur,∀ x ∈ p.2.cells,x.s.size≤maxLen):RowsAt w base v (ur.map (·.2)):=by
 have hl:(ur.map (·.2)).length=ur.length:=by simp
 rcases h.own.2 with ⟨rfl,hn⟩ | ⟨g,cap,cur,rfl,hg,hc,h1,h2,_⟩
 ·exact ⟨none,0,by rw [hl,hn],by rw [hl];omega,by unfold maxLen;omega,fun i hi=>by rw [hl] at hi;omega⟩
 ·refine ⟨_,cap,by rw [hl],by rw [hl];exact h1,h2,fun i hi=>⟨g,0,rfl,(Array.getElem?_eq_some_iff.1 hc).1,hg,?_⟩⟩
  rw [hl] at hi
  have hx:∀ j,j < 2→w.cell? ⟨g,i * 2+j,none⟩=(rowVs ur[i])[j]?:=fun j hj=>by
   have e:=flat_get rowVs 2 (fun _=>rfl) ur i hi j hj
   rw [row_cell h.own (u:=(rowVs ur[i])[j]'(by show j < 2;exact hj)) (by rw [e];simp)]
   simp
  have hm:=List.getElem_mem hi
  dsimp only
  rw [getD_get dR (by rw [hl];exact hi),Nat.zero_add,List.getElem_map]
  exact ⟨ur[i].1,hx 0 (by omega),hx 1 (by omega),(h.cells _ hm).atM (hs _ hm)⟩
/-- no text is too long to be one -/
def TxM (t:T):Prop:=∀ r ∈ t.rows,∀ x ∈ r.cells,x.s.size≤maxLen
theorem OwnT.cols {w:World} {base:Nat} {vc vr:Value} {t:T} (h:OwnT w base vc vr t):ColsAt w base vc t.cols:=by
 obtain ⟨_,_,a,_⟩:=h
 exact a.at
theorem OwnT.rows {w:World} {base:Nat} {vc vr:Value} {t:T} (h:OwnT w base vc vr t) (hs:TxM t):RowsAt w base vr t.rows:=by
 obtain ⟨ur,e,_,b⟩:=h
 rw [← e]
 exact b.atM (fun p hp=>hs p.2 (by rw [← e];exact List.mem_map_of_mem hp))
theorem OwnT.kept {w w':World} {base:Nat} {vc vr:Value} {t:T} (h:OwnT w base vc vr t) (k:Below w.heap.size w w'):OwnT w' base vc vr t:=h.since (.of_below k)
theorem txM_at {w:World} {z:Nat} {v:Value} {rs:List R} (h:RowsAt w z v rs):∀ r ∈ rs,∀ x ∈ r.cells,x.s.size≤maxLen:=by
 intro r hr x hx
 obtain ⟨i,hi,rfl⟩:=List.mem_iff_getElem.1 hr
 obtain ⟨_,_,_,_,_,_,_,u,_,_,hc⟩:=At.get h hi
 rw [getD_get dR hi] at hc
 obtain ⟨j,hj,rfl⟩:=List.mem_iff_getElem.1 hx
 obtain ⟨_,_,_,_,_,_,_,_,hs⟩:=At.get hc hj
 rw [getD_get dC hj] at hs
 exact hs
end Go.Proofs.Ytggmjiddadjilaj
namespace Go.Proofs.Ytggmjiddadjilaj
open Go.RowKit

/-- bounds of a table that is ok -/
theorem tbl_bounds {t:T} (h:tblB t=true):t.cols.length≤8∧1≤t.rows.length∧t.rows.length≤8∧∀ i,i < t.rows.length→(t.rows.getD i dR).cells.length≤5:=by
 simp only [tblB,colsB,inB,Bool.and_eq_true,decide_eq_true_eq,List.all_eq_true] at h
 obtain ⟨h1,_,_,⟨h4,_⟩,h5⟩:=h
 refine ⟨h4,by omega,by omega,fun i hi=>?_⟩
 have:=h5 _ (List.getElem_mem hi)
 rw [getD_get dR hi]
 simp only [rowB,Bool.and_eq_true,decide_eq_true_eq] at this
 exact this.1
end Go.Proofs.Ytggmjiddadjilaj
namespace Go.Proofs.Ytggmjiddadjilaj
open Go.RowKit

/-- a table of few rows and cells -/
structure SmT (t:T):Prop where
 cols:t.cols.length≤8
 rows:t.rows.length≤9
 cells:∀ i,i < t.rows.length→(t.rows.getD i dR).cells.length≤6
theorem txM_z:TxM zT:=fun r hr=>absurd hr (by simp [zT])
theorem txM_set {t:T} (h:TxM t) {r:Nat} {cs:List C} (hc:∀ x ∈ cs,x.s.size≤maxLen):TxM (setRow t r cs):=by
 intro q hq x hx
 rcases List.mem_or_eq_of_mem_set hq with hm | rfl
 ·exact h q hm x hx
 ·exact hc x hx
theorem Out.kept {w W W':World} {n B D:Nat} (h:Below n w W) (k:Out B D W W') (hn:n≤B):Below n w W':=h.trans (k.below.mono hn)
theorem Out.box {W W':World} {B D b:Nat} {o:Obj} (h:W.heap[b]?=some o) (k:Out B D W W') (hd:b < B∨D≤b):W'.heap[b]?=some o:=by
 rcases hd with hd | hd
 ·exact (k.below.block b hd).trans h
 ·exact (k.block b hd (Array.getElem?_eq_some_iff.1 h).1).trans h
theorem box_kept {W W':World} {b:Nat} {o:Obj} (h:W.heap[b]?=some o) (k:Below W.heap.size W W'):W'.heap[b]?=some o:=(k.block b (Array.getElem?_eq_some_iff.1 h).1).trans h
/-- an owned table lies in memory -/
theorem OwnD.tbl {w:World} {B D:Nat} {vc vr:Value} {t:T} {ur:List (Value × R)} (h:OwnD w B D vc vr t.cols ur) (hu:ur.map (·.2)=t.rows) (hs:TxM t):TblAt w B (.agg #[vc,.int .i64 t.head,.int .i64 t.foot,vr,.int .i64 t.gap]) t :=
 ⟨vc,vr,rfl,h.1.at,by rw [← hu];exact h.2.1.atM (fun p hp=>hs p.2 (by rw [← hu];exact List.mem_map_of_mem hp))⟩
end Go.Proofs.Ytggmjiddadjilaj
namespace Go.Proofs.Ytggmjiddadjilaj
open Go.RowKit

def txC (x:C) (s:ByteArray):C:=⟨s,x.c,x.r,x.a1,x.b1,x.a2,x.b2,x.a3,x.b3,x.a4,x.b4⟩
/-- a table behind another text of a cell -/
def edText (t:T) (row at':Int) (s:ByteArray):T × Bool :=
 if tblB t=true then (if (hasB t row at' && txtOkB s)=true then (setRow t row.toNat ((t.rows.getD row.toNat dR).cells.set at'.toNat (txC ((t.rows.getD row.toNat dR).cells.getD at'.toNat dC) s)),true) else (t,false)) else (zT,false)
theorem txM_text {t:T} (ht:TxM t) {row at':Int} {s:ByteArray} (hs:s.size≤maxLen):TxM (edText t row at' s).1:=by
 unfold edText
 split
 ·split
  ·rename_i h2
   rw [Bool.and_eq_true] at h2
   obtain ⟨r,a,rfl,rfl,hr,_⟩:=hasB_iff.1 h2.1
   refine txM_set ht (fun x hx=>?_)
   rcases List.mem_or_eq_of_mem_set hx with hm | rfl
   ·rw [Int.toNat_natCast,getD_get dR hr] at hm
    exact ht _ (List.getElem_mem hr) x hm
   ·exact hs
  ·exact ht
 ·exact txM_z
end Go.Proofs.Ytggmjiddadjilaj
namespace Go.Proofs.Ytggmjiddadjilaj
open Go.RowKit

theorem OwnD.put {w W9:World} {B D:Nat} {vc vr:Value} {cols:List (Int × Int)} {ur:List (Value × R)} (h:OwnD w B D vc vr cols ur) (hb:Below w.heap.size w W9) {r a j:Nat} {p:Value × R} (hp:ur[r]?=some p) {g cap:Nat} (hpv:p.1=.slice (some ⟨g,0,none⟩) p.2.cells.length cap) (ha:a < p.2.cells.length) (hj:j < 11) {x:C} {v:Value} (hx:cellVs x=(cellVs p.2.cells[a]).set j v) :
  OwnD (W9.setCell ⟨g,a * 11+j,none⟩ v) B D vc vr cols (ur.set r (p.1,⟨p.2.cells.set a x,p.2.whole⟩)):=by
 have h9:=h.kept hb
 have hpm:p ∈ ur:=List.mem_of_getElem? hp
 have hC:=h9.2.1.cells p hpm
 rw [hpv] at hC
 have hC2:=OwnC.put hC ha hj hx
 have hG:W9.grownBy (W9.setCell ⟨g,a * 11+j,none⟩ v) p.1.ownBlock:=by rw [hpv];exact grown_set (grown_refl _ _) rfl _
 have hR:=h9.2.1.upd hp (r:=⟨p.2.cells.set a x,p.2.whole⟩) rfl (by rw [hpv];simpa [OwnC] using hC2) hG
 refine ⟨?_,hR,h.2.2.1,h.2.2.2.1,fun q hq b e=>?_⟩
 ·have hne:=row_ne h9.1 (h9.2.1.cells p hpm) (by decide)
  exact row_off h9.1 (Off.grown (b1:=none) (n:=0) hG) (Nat.zero_le _) (by rcases hb:vc.ownBlock with _ | b;exact .inl rfl;exact .inr (by simp)) hne
 ·rcases List.mem_or_eq_of_mem_set hq with hm | rfl
  ·exact h.2.2.2.2 q hm b e
  ·exact h.2.2.2.2 p hpm b e
/-- it stays where one block that is not its own is turned -/
theorem OwnD.other {W W':World} {B D n:Nat} {vc vr:Value} {cols:List (Int × Int)} {ur:List (Value × R)} (h:OwnD W B D vc vr cols ur) (hn:D≤n) (hk:∀ k,k ≠ n→W'.heap[k]?=W.heap[k]?):OwnD W' B D vc vr cols ur:=by
 obtain ⟨h1,h2,h3,h4,h5⟩:=h
 have key:∀ {e:TypeId} {sz:Nat} {v:Value} {m:Nat} {xs:List Value},W.ownsRow B e sz v m xs→(∀ b,v.ownBlock=some b→b < D)→W'.ownsRow B e sz v m xs:=fun h hv=>by
  refine ⟨h.1,h.2.elim Or.inl (fun ⟨g,cap,cur,e,hg,hc,q⟩=>Or.inr ⟨g,cap,cur,e,hg,?_,q⟩)⟩
  have hgD:g < D:=hv g (by rw [e];rfl)
  exact (hk g (by omega)).trans hc
 exact ⟨key h1 h3,⟨key h2.own h4,fun p hp=>key (h2.cells p hp) (h5 p hp),h2.apart⟩,h3,h4,h5⟩
theorem below_other {w W W':World} (h:Below w.heap.size w W) {n:Nat} (hn:w.heap.size≤n) (hk:∀ k,k ≠ n→W'.heap[k]?=W.heap[k]?) (hs:W'.heap.size=W.heap.size) (ho:W'.os=W.os) (ht:W'.tape=W.tape) (hu:W'.output=W.output):Below w.heap.size w W' :=
 ⟨ho.trans h.os,ht.trans h.tape,hu.trans h.output,by rw [hs];exact h.size,fun k h1=>(hk k (by omega)).trans (h.block k h1)⟩
/-- a row's cells, as an owned table has them -/
theorem own_row {w:World} {B:Nat} {vr:Value} {ur:List (Value × R)} (h:OwnR w B vr ur) {r:Nat} {p:Value × R} (hp:ur[r]?=some p) {a:Nat} (ha:a < p.2.cells.length):∃ g cap cur,p.1=.slice (some ⟨g,0,none⟩) p.2.cells.length cap∧w.heap[g]?=some (.cells cur 41)∧p.2.cells.length≤cap∧cap≤maxLen∧cur.size=cap * 11:=by
 rcases (h.cells p (List.mem_of_getElem? hp)).2 with ⟨_,e⟩ | ⟨g,cap,cur,e,hg,hc,a1,a2,a3,_⟩
 ·omega
 ·exact ⟨g,cap,cur,e,hc,a1,a2,a3⟩
theorem map_set_snd (ur:List (Value × R)) (r:Nat) (q:Value × R):(ur.set r q).map (·.2)=(ur.map (·.2)).set r q.2:=by simp
theorem own_lt {w:World} {B D:Nat} {vc vr:Value} {cols:List (Int × Int)} {ur:List (Value × R)} (h:OwnD w B D vc vr cols ur) {t:T} (hc:t.cols=cols) (hr:ur.map (·.2)=t.rows):OwnT w B vc vr t:=⟨ur,hr,by rw [hc];exact h.1,h.2.1⟩
end Go.Proofs.Ytggmjiddadjilaj
namespace Go.Proofs.Ytggmjiddadjilaj
open Go.RowKit

/-- a table behind a cell taken out -/
def edTake (t:T) (row at':Int):T × Bool :=
 if tblB t=true then (if hasB t row at'=true then (setRow t row.toNat ((t.rows.getD row.toNat dR).cells.eraseIdx at'.toNat),true) else (t,false)) else (zT,false)
/-- one row of a table that is owned: its slice of cells another one -/
theorem OwnR.slice {w1:World} {base:Nat} {v:Value} {ur:List (Value × R)} {i g cap:Nat} (hv:v=.slice (some ⟨g,0,none⟩) ur.length cap) {p:Value × R} (hi:ur[i]?=some p) {u:Value} {r:R} (hw:r.whole=p.2.whole)
  (hR:w1.ownsRow base 52 2 v ur.length (ur.flatMap rowVs)) (hC:∀ j,j ≠ i→∀ q,ur[j]?=some q→OwnC w1 base q.1 q.2.cells) (hc:OwnC w1 base u r.cells)
  (ha:ur.Pairwise fun p q=>p.1.ownBlock=none∨p.1.ownBlock ≠ q.1.ownBlock) (hu:∀ j,j ≠ i→∀ q,ur[j]?=some q→q.1.ownBlock=none∨q.1.ownBlock ≠ u.ownBlock) :
  OwnR (w1.setCell ⟨g,i * 2,none⟩ u) base v (ur.set i (u,r)):=by
 have hil:i < ur.length:=(List.getElem?_eq_some_iff.1 hi).1
 have ep:ur[i]=p:=by rw [List.getElem?_eq_getElem hil] at hi;exact Option.some.inj hi
 have hvg:v.ownBlock=some g:=by rw [hv];rfl
 have hS:Off 0 (some g) none w1 (w1.setCell ⟨g,i * 2,none⟩ u):=Off.set w1 ⟨g,i * 2,none⟩ rfl _
 have hnn:∀ u:Value,u.ownBlock=none∨u.ownBlock ≠ none:=fun u=>by rcases hb:u.ownBlock with _ | b;exact .inl rfl;exact .inr (by simp)
 have hcw:∀ {x:Value} {cs:List C},OwnC w1 base x cs→OwnC (w1.setCell ⟨g,i * 2,none⟩ u) base x cs:=fun h=>by
  refine row_off h hS (Nat.zero_le _) ?_ (hnn _)
  rcases row_ne h hR (by decide) with e | e
  ·exact .inl e
  ·exact .inr (by rw [← hvg];exact e)
 refine ⟨?_,fun q hq=>?_,?_⟩
 ·rcases hR.2 with ⟨e,_⟩ | ⟨g',cap',cur,e,hg',hcur,a1,a2,a3,a4⟩
  ·rw [hv] at e;simp at e
  ·rw [hv] at e
   simp only [Value.slice.injEq,Option.some.injEq,Addr.mk.injEq,and_true,true_and] at e
   obtain ⟨rfl,rfl⟩:=e
   refine ⟨by rw [flat_len rowVs 2 (fun _=>rfl)],.inr ⟨g,cap,cur.setIfInBounds (i * 2) u,by rw [List.length_set];exact hv,hg',setB hcur _,by rw [List.length_set];exact a1,a2,by rw [Array.size_setIfInBounds];exact a3,?_⟩⟩
   refine flat_take rowVs 2 (fun _=>rfl) (ur.set i (u,r)) (cur.setIfInBounds (i * 2) u) (by rw [List.length_set,Array.size_setIfInBounds,a3];omega) (fun j hj0 m hm=>?_)
   have hj:j < ur.length:=by rw [List.length_set] at hj0;exact hj0
   have hold:cur[j * 2+m]?=(rowVs ur[j])[m]?:=by
    have e:=flat_get rowVs 2 (fun _=>rfl) ur j hj m hm
    rw [← a4,List.getElem?_take_of_lt (by omega),Array.getElem?_toList] at e
    exact e
   by_cases hji:j=i
   ·subst hji
    rw [List.getElem_set_self]
    match m,hm with
    | 0,_ =>
     rw [Nat.add_zero,Array.getElem?_setIfInBounds_self_of_lt (by rw [a3];omega)]
     rfl
    | 1,_ =>
     rw [Array.getElem?_setIfInBounds_ne (by omega),hold,ep]
     show some (Value.bool p.2.whole)=some (Value.bool r.whole)
     rw [hw]
   ·rw [List.getElem_set_ne (by omega),Array.getElem?_setIfInBounds_ne (by omega)]
    exact hold
 ·obtain ⟨j,hj0,rfl⟩:=List.mem_iff_getElem.1 hq
  have hj:j < ur.length:=by rw [List.length_set] at hj0;exact hj0
  by_cases hji:j=i
  ·subst hji
   rw [List.getElem_set_self]
   exact hcw hc
  ·rw [List.getElem_set_ne (by omega)]
   exact hcw (hC j hji _ (List.getElem?_eq_getElem hj))
 ·rw [List.pairwise_iff_getElem] at ha ⊢
  intro x y hx0 hy0 hxy
  have hx:x < ur.length:=by rw [List.length_set] at hx0;exact hx0
  have hy:y < ur.length:=by rw [List.length_set] at hy0;exact hy0
  by_cases hxi:x=i
  ·subst hxi
   rw [List.getElem_set_self,List.getElem_set_ne (by omega)]
   rcases hb:u.ownBlock with _ | b
   ·exact .inl rfl
   ·refine .inr (fun e=>?_)
    rcases hu y (by omega) _ (List.getElem?_eq_getElem hy) with h1 | h1
    ·rw [h1] at e;cases e
    ·exact h1 (e.symm.trans hb.symm)
  ·by_cases hyi:y=i
   ·subst hyi
    rw [List.getElem_set_self,List.getElem_set_ne (by omega)]
    exact hu x (by omega) _ (List.getElem?_eq_getElem hx)
   ·rw [List.getElem_set_ne (by omega),List.getElem_set_ne (by omega)]
    exact ha x y hx hy hxy
/-- the same block, its cells others -/
theorem OwnD.take {w W9:World} {B D:Nat} {vc vr:Value} {cols:List (Int × Int)} {ur:List (Value × R)} (h:OwnD w B D vc vr cols ur) {r g cg:Nat} (hv:vr=.slice (some ⟨g,0,none⟩) ur.length cg) {p:Value × R} (hp:ur[r]?=some p) {b:Nat} (hpb:p.1.ownBlock=some b) (hG:w.grownBy W9 (some b)) {u:Value} {cs:List C} (hub:u.ownBlock=some b) (hc:OwnC W9 B u cs) :
  OwnD (W9.setCell ⟨g,r * 2,none⟩ u) B D vc vr cols (ur.set r (u,⟨cs,p.2.whole⟩)):=by
 have hpm:p ∈ ur:=List.mem_of_getElem? hp
 have hrl:r < ur.length:=(List.getElem?_eq_some_iff.1 hp).1
 have ep:ur[r]=p:=by rw [List.getElem?_eq_getElem hrl] at hp;exact Option.some.inj hp
 have hnn:∀ u:Value,u.ownBlock=none∨u.ownBlock ≠ none:=fun u=>by rcases hb:u.ownBlock with _ | b;exact .inl rfl;exact .inr (by simp)
 have hG':w.grownBy W9 p.1.ownBlock:=by rw [hpb];exact hG
 have K1:Off 0 none p.1.ownBlock w W9:=Off.grown hG'
 have hR:=row_off h.2.1.own K1 (Nat.zero_le _) (hnn vr) (row_ne h.2.1.own (h.2.1.cells p hpm) (by decide))
 have hap:∀ j,j ≠ r→∀ q,ur[j]?=some q→q.1.ownBlock=none∨q.1.ownBlock ≠ p.1.ownBlock:=fun j hj q hq=>by
  have hjl:j < ur.length:=(List.getElem?_eq_some_iff.1 hq).1
  have eq:ur[j]=q:=by rw [List.getElem?_eq_getElem hjl] at hq;exact Option.some.inj hq
  have hpw:=List.pairwise_iff_getElem.1 h.2.1.apart
  rcases Nat.lt_or_gt_of_ne hj with hl | hl
  ·rw [← ep,← eq];exact hpw j r hjl hrl hl
  ·have:=hpw r j hrl hjl hl
   rw [ep,eq] at this
   rcases hb:q.1.ownBlock with _ | b'
   ·exact .inl rfl
   ·refine .inr (fun e=>?_)
    rcases this with e1 | e1
    ·rw [e1] at e;cases e
    ·exact e1 (e.symm.trans hb.symm)
 have hC:∀ j,j ≠ r→∀ q,ur[j]?=some q→OwnC W9 B q.1 q.2.cells:=fun j hj q hq=>row_off (h.2.1.cells q (List.mem_of_getElem? hq)) K1 (Nat.zero_le _) (hnn _) (hap j hj q hq)
 have hO:=OwnR.slice (r:=⟨cs,p.2.whole⟩) hv hp rfl hR hC hc h.2.1.apart (fun j hj q hq=>by rw [hub,← hpb];exact hap j hj q hq)
 have hgB:vr.ownBlock=some g:=by rw [hv];rfl
 refine ⟨?_,hO,h.2.2.1,h.2.2.2.1,fun q hq b' e=>?_⟩
 ·have c1:=row_off h.1 K1 (Nat.zero_le _) (hnn vc) (row_ne h.1 (h.2.1.cells p hpm) (by decide))
  have hS:Off 0 (some g) none W9 (W9.setCell ⟨g,r * 2,none⟩ u):=Off.set W9 ⟨g,r * 2,none⟩ rfl _
  refine row_off c1 hS (Nat.zero_le _) ?_ (hnn _)
  rcases row_ne c1 hR (by decide) with e | e
  ·exact .inl e
  ·exact .inr (by rw [← hgB];exact e)
 ·rcases List.mem_or_eq_of_mem_set hq with hm | rfl
  ·exact h.2.2.2.2 q hm b' e
  ·rw [hub] at e
   exact h.2.2.2.2 p hpm b' (by rw [hpb];exact e)
end Go.Proofs.Ytggmjiddadjilaj
namespace Go.Proofs.Ytggmjiddadjilaj
open Go.RowKit

set_option maxRecDepth 100000 in
set_option maxHeartbeats 2000000 in
theorem implCellsIn (ac ar:Option Addr) (cc cr:Nat) (t:T) (row:Int) (hrow:-9223372036854775808≤row∧row≤9223372036854775807) (w:World) {z:Nat} (hr:RowsAt w z (.slice ar t.rows.length cr) t.rows) :
  Calls Try.prog 47 #[.agg #[.slice ac t.cols.length cc,.int .i64 t.head,.int .i64 t.foot,.slice ar t.rows.length cr,.int .i64 t.gap],.int .i64 row] w fun e w'=>e=.returned (.int .i64 (cellsInV t row))∧Below w.heap.size w w':=by
 obtain ⟨_,_,_,hlen⟩:=At.form hr
 unfold maxLen at hlen
 have K0:=k_alloc (Below.refl w.heap.size w) (.cells #[.slice ac t.cols.length cc,.int .i64 t.head,.int .i64 t.foot,.slice ar t.rows.length cr,.int .i64 t.gap] 37)
 have HK:=Hid.intro K0
 have HR:=Hid.intro (hr.kept K0)
 have HX:=Hid.intro (newestB w (.cells #[.slice ac t.cols.length cc,.int .i64 t.head,.int .i64 t.foot,.slice ar t.rows.length cr,.int .i64 t.gap] 37))
 have HV:Hid (cellsInV t row=if inB row 0 ((t.rows.length:Int) - 1)=true then ((t.rows.getD row.toNat dR).cells.length:Int) else -1):=rfl
 clear hr K0
 have HI:=Hid.intro (fun W=>within_any row 0 ((t.rows.length:Int) - 1) W)
 by_cases hin:inB row 0 ((t.rows.length:Int) - 1)=true
 ·have hv:=HV.out
  rw [if_pos hin] at hv
  rw [hin] at HI
  obtain ⟨r,rfl⟩:∃ r:Nat,row=r:=⟨row.toNat,by simp only [inB,decide_eq_true_eq] at hin;omega⟩
  have hrl:r < t.rows.length:=by simp only [inB,decide_eq_true_eq] at hin;omega
  rw [Int.toNat_natCast] at hv
  obtain ⟨b,off,cap',e',hc1,hc2,hbl,u,hx0,hx1,hx⟩:=At.get HR.out hrl
  simp only [Value.slice.injEq,true_and] at e'
  obtain ⟨rfl,rfl⟩:=e'
  obtain ⟨au,cu,rfl,hul⟩:=At.form hx
  have Hv:=Hid.intro hv
  generalize (t.rows.getD r dR).cells.length=m at hx0 Hv hul
  unfold maxLen at hc2 hul
  clear hv HV hin hx hx1
  go_enter Try.func47,Try.ntmps47
  go_upto_region 1 with fail
  generalize w.alloc (.cells #[.slice ac t.cols.length cc,.int .i64 t.head,.int .i64 t.foot,.slice (some ⟨b,off,none⟩) t.rows.length cr,.int .i64 t.gap] 37)=W0 at HK HR HX hx0 hbl ⊢
  have z3:=cellB (p:=3) HX.out
  go_wp2_with fail
  refine (HI.out _).mono ?_
  rintro e w1 ⟨rfl,e1⟩
  subst e1
  go_wp2
  go_ret
  exact ⟨by rw [Hv.out];rfl,HK.out⟩
 ·have hv:=HV.out
  rw [if_neg hin] at hv
  rw [Bool.eq_false_iff.2 hin] at HI
  have Hv:=Hid.intro hv
  clear hv HV hin
  go_enter Try.func47,Try.ntmps47
  go_upto_region 1 with fail
  generalize w.alloc (.cells #[.slice ac t.cols.length cc,.int .i64 t.head,.int .i64 t.foot,.slice ar t.rows.length cr,.int .i64 t.gap] 37)=W0 at HK HR HX ⊢
  have z3:=cellB (p:=3) HX.out
  go_wp2_with fail
  refine (HI.out _).mono ?_
  rintro e w1 ⟨rfl,e1⟩
  subst e1
  go_wp2
  go_ret
  exact ⟨by rw [Hv.out];rfl,HK.out⟩

theorem cellsIn_bound (t:T) (row:Int) (h:∀ r ∈ t.rows,r.cells.length≤1048576):-1≤cellsInV t row∧cellsInV t row≤1048576:=by
 unfold cellsInV
 split
 ·rename_i hin
  have hl:row.toNat < t.rows.length:=by simp only [inB,decide_eq_true_eq] at hin;omega
  have:=h _ (List.getElem_mem hl)
  rw [getD_get dR hl]
  omega
 ·omega
set_option maxRecDepth 100000 in
set_option maxHeartbeats 2000000 in
theorem implHasCell (ac ar:Option Addr) (cc cr:Nat) (t:T) (row at':Int) (hrow:-9223372036854775808≤row∧row≤9223372036854775807) (hcs:∀ r ∈ t.rows,r.cells.length≤1048576) (w:World) {z:Nat} (hr:RowsAt w z (.slice ar t.rows.length cr) t.rows) :
  Calls Try.prog 56 #[.agg #[.slice ac t.cols.length cc,.int .i64 t.head,.int .i64 t.foot,.slice ar t.rows.length cr,.int .i64 t.gap],.int .i64 row,.int .i64 at'] w fun e w'=>e=.returned (.bool (hasB t row at'))∧Below w.heap.size w w':=by
 have K0:=k_alloc (Below.refl w.heap.size w) (.cells #[.slice ac t.cols.length cc,.int .i64 t.head,.int .i64 t.foot,.slice ar t.rows.length cr,.int .i64 t.gap] 37)
 have HK:=Hid.intro K0
 have HX:=Hid.intro (newestB w (.cells #[.slice ac t.cols.length cc,.int .i64 t.head,.int .i64 t.foot,.slice ar t.rows.length cr,.int .i64 t.gap] 37))
 have KC:=Hid.intro (implCellsIn ac ar cc cr t row hrow _ (hr.kept K0))
 have hcb:=cellsIn_bound t row hcs
 have HI:=Hid.intro (fun W=>within_any at' 0 (cellsInV t row - 1) W)
 have HV:Hid (hasB t row at'=inB at' 0 (cellsInV t row - 1)):=rfl
 clear hr K0 hcs
 go_enter Try.func56,Try.ntmps56
 go_upto_region 1 with fail
 generalize w.alloc (.cells #[.slice ac t.cols.length cc,.int .i64 t.head,.int .i64 t.foot,.slice ar t.rows.length cr,.int .i64 t.gap] 37)=W0 at HK HX KC ⊢
 obtain ⟨z0,z1,z2,z3,z4⟩:=fiveO HX.out
 generalize cellsInV t row=cv at KC hcb HI HV
 go_wp2_with fail
 refine KC.out.mono ?_
 rintro e w1 ⟨rfl,hb1⟩
 have HB1:=Hid.intro (k_trans HK.out hb1)
 clear hb1 z0 z1 z2 z3 z4
 go_wp2_with fail
 refine (HI.out _).mono ?_
 rintro e w2 ⟨rfl,e2⟩
 subst e2
 go_wp2
 go_ret
 exact ⟨by rw [HV.out];rfl,HB1.out⟩
end Go.Proofs.Ytggmjiddadjilaj
namespace Go.Proofs.Ytggmjiddadjilaj
open Go.RowKit

/-- is there a place for a cell in a row -/
def plB (t:T) (row at':Int):Bool:=inB at' 0 (cellsInV t row) && decide (cellsInV t row < 5)
/-- cells with one more -/
def insC (cs:List C) (a:Nat) (x:C):List C:=cs.take a ++ x :: cs.drop a
/-- a table behind a cell put in -/
def edPut (t:T) (row at':Int) (x:C):T × Bool :=
 if tblB t=true then (if (cB x && plB t row at')=true then (setRow t row.toNat (insC (t.rows.getD row.toNat dR).cells at'.toNat x),true) else (t,false)) else (zT,false)
/-- a table in memory of its own, none of it in one block -/
def OwnM (w:World) (B n:Nat) (vc vr:Value) (cols:List (Int × Int)) (ur:List (Value × R)):Prop :=
 OwnCol w B vc cols∧OwnR w B vr ur∧vc.ownBlock ≠ some n∧vr.ownBlock ≠ some n∧∀ q ∈ ur,q.1.ownBlock ≠ some n
theorem OwnM.other {W W':World} {B n:Nat} {vc vr:Value} {cols:List (Int × Int)} {ur:List (Value × R)} (h:OwnM W B n vc vr cols ur) (hk:∀ k,k ≠ n→W'.heap[k]?=W.heap[k]?):OwnM W' B n vc vr cols ur:=by
 obtain ⟨h1,h2,h3,h4,h5⟩:=h
 have key:∀ {e:TypeId} {sz:Nat} {v:Value} {m:Nat} {xs:List Value},W.ownsRow B e sz v m xs→v.ownBlock ≠ some n→W'.ownsRow B e sz v m xs:=fun h hv=>by
  refine ⟨h.1,h.2.elim Or.inl (fun ⟨g,cap,cur,e,hg,hc,q⟩=>Or.inr ⟨g,cap,cur,e,hg,?_,q⟩)⟩
  exact (hk g (fun e'=>hv (by rw [e,e'];rfl))).trans hc
 exact ⟨key h1 h3,⟨key h2.own h4,fun p hp=>key (h2.cells p hp) (h5 p hp),h2.apart⟩,h3,h4,h5⟩
end Go.Proofs.Ytggmjiddadjilaj
