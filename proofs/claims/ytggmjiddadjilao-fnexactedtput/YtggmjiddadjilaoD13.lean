/-
  PROVED HERE: a table behind a cell put into a row, as a list; a row's slice of cells another one, wherever it lies, in memory. Also: an append that fits; cells that are owned, the first ones and the last ones of them.
-/
import Derived.Test.YtggmjiddadjilaoD8
import Derived.Test.YtggmjiddadjilaoD12
import Derived.Test.YtggmjiddadjilaoD6
import Derived.Test.YtggmjiddadjilaoD10
import Derived.Test.YtggmjiddadjilaoD5
import Derived.WalkLawsBesides
import Derived.WalkSpells
import Derived.Deep.RegionWith
import Derived.Deep.QuietTactic
import Derived.BigQuiet
import Derived.Deep.Cut
import Derived.Laws.OwnMore
import Derived.Laws.IdiomCopy
namespace Go.Proofs.Ytggmjiddadjilao
open Go.RowKit

/-- is there a place for a cell in a row -/
def plB (t:T) (row at':Int):Bool:=inB at' 0 (cellsInV t row) && decide (cellsInV t row < 5)
/-- cells with one more -/
def insC (cs:List C) (a:Nat) (x:C):List C:=cs.take a ++ x :: cs.drop a
theorem insC_len (cs:List C) (a:Nat) (x:C):(insC cs a x).length=cs.length+1:=by
 rw [insC,List.length_append,List.length_cons,List.length_take,List.length_drop]
 omega
theorem insC_mem {cs:List C} {a:Nat} {x q:C} (h:q ∈ insC cs a x):q ∈ cs∨q=x:=by
 rcases List.mem_append.1 h with h | h
 ·exact .inl (List.mem_of_mem_take h)
 ·rcases List.mem_cons.1 h with h | h
  ·exact .inr h
  ·exact .inl (List.mem_of_mem_drop h)
/-- a table behind a cell put in -/
def edPut (t:T) (row at':Int) (x:C):T × Bool :=
 if tblB t=true then (if (cB x && plB t row at')=true then (setRow t row.toNat (insC (t.rows.getD row.toNat dR).cells at'.toNat x),true) else (t,false)) else (zT,false)
theorem plB_iff {t:T} {row at':Int}:plB t row at'=true ↔ ∃ r a:Nat,row=r∧at'=a∧r < t.rows.length∧a≤(t.rows.getD r dR).cells.length∧(t.rows.getD r dR).cells.length < 5:=by
 unfold plB cellsInV
 rw [Bool.and_eq_true]
 constructor
 ·intro h
  simp only [inB,decide_eq_true_eq] at h
  split at h
  ·rename_i h1
   refine ⟨row.toNat,at'.toNat,by omega,by omega,by omega,by omega,by omega⟩
  ·omega
 ·rintro ⟨r,a,rfl,rfl,h1,h2,h3⟩
  rw [if_pos (inB_true (by omega) (by omega)),Int.toNat_natCast]
  exact ⟨inB_true (by omega) (by omega),decide_eq_true (by omega)⟩
theorem smT_put {t:T} {row at':Int} {x:C}:SmT (edPut t row at' x).1:=by
 unfold edPut
 split
 ·rename_i h
  split
  ·rename_i h2
   rw [Bool.and_eq_true] at h2
   refine smT_set (smT_ok h) ?_
   obtain ⟨r,a,rfl,rfl,hr,ha,hl⟩:=plB_iff.1 h2.2
   rw [Int.toNat_natCast,Int.toNat_natCast,insC_len]
   omega
  ·exact smT_ok h
 ·exact smT_z
theorem txM_put {t:T} (ht:TxM t) {row at':Int} {x:C} (hx:x.s.size≤maxLen):TxM (edPut t row at' x).1:=by
 unfold edPut
 split
 ·split
  ·rename_i h2
   rw [Bool.and_eq_true] at h2
   obtain ⟨r,a,rfl,rfl,hr,ha,hl⟩:=plB_iff.1 h2.2
   refine txM_set ht (fun q hq=>?_)
   rcases insC_mem hq with hq | rfl
   ·rw [Int.toNat_natCast,getD_get dR hr] at hq
    exact ht _ (List.getElem_mem hr) q hq
   ·exact hx
  ·exact ht
 ·exact txM_z
theorem flat_insC (x:C):∀ (i:Nat) (cs:List C),(insC cs i x).flatMap cellVs=(cs.flatMap cellVs).take (i * 11) ++ cellVs x ++ (cs.flatMap cellVs).drop (i * 11)
 | 0,cs=>by simp [insC]
 | i+1,[]=>by simp [insC]
 | i+1,q :: cs=>by
  have:=flat_insC x i cs
  have e2:(i+1) * 11=i * 11+1+1+1+1+1+1+1+1+1+1+1:=by omega
  unfold insC at this ⊢
  rw [List.take_succ_cons,List.drop_succ_cons,List.cons_append,List.flatMap_cons,this,List.flatMap_cons,e2]
  simp [cellVs]
/-- a table in memory of its own, none of it in one block -/
def OwnM (w:World) (B n:Nat) (vc vr:Value) (cols:List (Int × Int)) (ur:List (Value × R)):Prop :=
 OwnCol w B vc cols∧OwnR w B vr ur∧vc.ownBlock ≠ some n∧vr.ownBlock ≠ some n∧∀ q ∈ ur,q.1.ownBlock ≠ some n
theorem OwnM.other {W W':World} {B n:Nat} {vc vr:Value} {cols:List (Int × Int)} {ur:List (Value × R)} (h:OwnM W B n vc vr cols ur) (hk:∀ k,k ≠ n→W'.heap[k]?=W.heap[k]?):OwnM W' B n vc vr cols ur:=by
 obtain ⟨h1,h2,h3,h4,h5⟩:=h
 have key:∀ {e:TypeId} {sz:Nat} {v:Value} {m:Nat} {xs:List Value},W.ownsRow B e sz v m xs→v.ownBlock ≠ some n→W'.ownsRow B e sz v m xs:=fun h hv=>by
  refine ⟨h.1,h.2.elim Or.inl (fun ⟨g,cap,cur,e,hg,hc,q⟩=>Or.inr ⟨g,cap,cur,e,hg,?_,q⟩)⟩
  exact (hk g (fun e'=>hv (by rw [e,e'];rfl))).trans hc
 exact ⟨key h1 h3,⟨key h2.own h4,fun p hp=>key (h2.cells p hp) (h5 p hp),h2.apart⟩,h3,h4,h5⟩
theorem row_notM {w:World} {B:Nat} {e e':TypeId} {sz:Nat} {v:Value} {m:Nat} {xs:List Value} (h:w.ownsRow B e sz v m xs) {n:Nat} {arr:Array Value} (hn:w.heap[n]?=some (.cells arr e')) (he:e ≠ e'):v.ownBlock ≠ some n:=fun hb=>by
 rcases row_ne_block h hn he with e1 | e1
 ·rw [e1] at hb;cases hb
 ·exact e1 hb
/-- the cells of one row others, in their block or in one that is new -/
theorem own_put {w W9:World} {B D:Nat} {vc vr:Value} {cols:List (Int × Int)} {ur:List (Value × R)} (h:OwnD w B D vc vr cols ur) {r g cg:Nat} (hv:vr=.slice (some ⟨g,0,none⟩) ur.length cg) {p:Value × R} (hp:ur[r]?=some p) (hG:w.grownBy W9 p.1.ownBlock) {u:Value} {cs:List C} (hub:u.ownBlock=p.1.ownBlock∨∀ b,u.ownBlock=some b→w.heap.size≤b) (hc:OwnC W9 B u cs) {n:Nat} {arn:Array Value} (hn:W9.heap[n]?=some (.cells arn 56)) :
  OwnM (W9.setCell ⟨g,r * 2,none⟩ u) B n vc vr cols (ur.set r (u,⟨cs,p.2.whole⟩)):=by
 have hpm:p ∈ ur:=List.mem_of_getElem? hp
 have hrl:r < ur.length:=(List.getElem?_eq_some_iff.1 hp).1
 have ep:ur[r]=p:=by rw [List.getElem?_eq_getElem hrl] at hp;exact Option.some.inj hp
 have hnn:∀ u:Value,u.ownBlock=none∨u.ownBlock ≠ none:=fun u=>by rcases hb:u.ownBlock with _ | b;exact .inl rfl;exact .inr (by simp)
 have K1:Off 0 none p.1.ownBlock w W9:=Off.grown hG
 have hR:=row_off h.2.1.own K1 (Nat.zero_le _) (hnn vr) (row_ne h.2.1.own (h.2.1.cells p hpm) (by decide))
 have hap:∀ j,j ≠ r→∀ q,ur[j]?=some q→q.1.ownBlock=none∨q.1.ownBlock ≠ p.1.ownBlock:=fun j hj q hq=>by
  have hjl:j < ur.length:=(List.getElem?_eq_some_iff.1 hq).1
  have eq:ur[j]=q:=by rw [List.getElem?_eq_getElem hjl] at hq;exact Option.some.inj hq
  have hpw:=List.pairwise_iff_getElem.1 h.2.1.apart
  rcases Nat.lt_or_gt_of_ne hj with hl | hl
  ·rw [← ep,← eq];exact hpw j r hjl hrl hl
  ·have:=hpw r j hrl hjl hl
   rw [ep,eq] at this
   rcases hb:q.1.ownBlock with _ | b'
   ·exact .inl rfl
   ·refine .inr (fun e=>?_)
    rcases this with e1 | e1
    ·rw [e1] at e;cases e
    ·exact e1 (e.symm.trans hb.symm)
 have hC:∀ j,j ≠ r→∀ q,ur[j]?=some q→OwnC W9 B q.1 q.2.cells:=fun j hj q hq=>row_off (h.2.1.cells q (List.mem_of_getElem? hq)) K1 (Nat.zero_le _) (hnn _) (hap j hj q hq)
 have hO:=OwnR.slice (r:=⟨cs,p.2.whole⟩) hv hp rfl hR hC hc h.2.1.apart (fun j hj q hq=>by
  rcases hub with e | e
  ·rw [e];exact hap j hj q hq
  ·rcases hb:q.1.ownBlock with _ | b
   ·exact .inl rfl
   ·refine .inr (fun e2=>?_)
    have h1:=(row_lt (h.2.1.cells q (List.mem_of_getElem? hq)) hb).2
    have h2:=e b e2.symm
    omega)
 have hgB:vr.ownBlock=some g:=by rw [hv];rfl
 have c1:=row_off h.1 K1 (Nat.zero_le _) (hnn vc) (row_ne h.1 (h.2.1.cells p hpm) (by decide))
 refine ⟨?_,hO,row_notM c1 hn (by decide),row_notM hR hn (by decide),fun q hq=>?_⟩
 ·have hS:Off 0 (some g) none W9 (W9.setCell ⟨g,r * 2,none⟩ u):=Off.set W9 ⟨g,r * 2,none⟩ rfl _
  refine row_off c1 hS (Nat.zero_le _) ?_ (hnn _)
  rcases row_ne c1 hR (by decide) with e | e
  ·exact .inl e
  ·exact .inr (by rw [← hgB];exact e)
 ·obtain ⟨j,hj0,rfl⟩:=List.mem_iff_getElem.1 hq
  have hj:j < ur.length:=by rw [List.length_set] at hj0;exact hj0
  by_cases hji:j=r
  ·subst hji
   rw [List.getElem_set_self]
   exact row_notM hc hn (by decide)
  ·rw [List.getElem_set_ne (by omega)]
   exact row_notM (hC j hji _ (List.getElem?_eq_getElem hj)) hn (by decide)
end Go.Proofs.Ytggmjiddadjilao
namespace Go.Proofs.Ytggmjiddadjilao
open Go.RowKit

theorem row_kept9 {w w':World} {base:Nat} {e:TypeId} {sz:Nat} {v:Value} {m:Nat} {xs:List Value} (h:w.ownsRow base e sz v m xs) (k:Below w.heap.size w w'):w'.ownsRow base e sz v m xs:=row_since h (.of_below k)
/-- the first cells of a row of cells -/
theorem OwnC.take {w:World} {B g n cap:Nat} {cs:List C} (h:OwnC w B (.slice (some ⟨g,0,none⟩) n cap) cs) (hn:cs.length=n) {a:Nat} (ha:a≤n):w.ownsRow B 62 11 (.slice (some ⟨g,0,none⟩) a cap) a ((cs.take a).flatMap cellVs):=by
 rcases h.2 with ⟨e,_⟩ | ⟨g',cap',cur,e,hg,hc,a1,a2,a3,a4⟩
 ·simp at e
 ·simp only [Value.slice.injEq,Option.some.injEq,Addr.mk.injEq,and_true] at e
  obtain ⟨rfl,_,rfl⟩:=e
  have hl:(cs.take a).length=a:=by rw [List.length_take];omega
  refine ⟨by rw [flat_len cellVs 11 (fun _=>rfl),hl],.inr ⟨g,cap,cur,rfl,hg,hc,by omega,a2,a3,?_⟩⟩
  have e:=flat_take cellVs 11 (fun _=>rfl) (cs.take a) cur (by rw [hl,a3];omega) (fun i hi j hj=>by
   rw [hl] at hi
   have e:=flat_get cellVs 11 (fun _=>rfl) cs i (by omega) j hj
   rw [← a4,List.getElem?_take_of_lt (by omega),Array.getElem?_toList] at e
   rw [e,List.getElem_take])
  rw [hl] at e
  exact e
end Go.Proofs.Ytggmjiddadjilao
