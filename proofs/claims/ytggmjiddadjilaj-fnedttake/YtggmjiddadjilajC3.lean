/-
  PROVED HERE: what the model's TxtOk answers at every text; nothing that was in memory is turned. Also: what a cell that is ok is, as a Bool. Also: what a column of which something may be said is, as a Bool. Also: what a table that is ok is, as a Bool. Also: how a table that is owned changes where one cell's place in memory is written; how many cells a row has; facts for the texts on edits. Also: a table that is owned, behind a write into one place of one of its cells. Also: bounds of a table that is ok, as lists. Also: how far a table's marks count; what stays of owned tables and boxes where others are marked: for the laws on edits. Also: a table behind a cell taken out of a row, as a list; a row's slice of cells another one, in memory.
-/
import Derived.Test.YtggmjiddadjilajC2
import Derived.Test.YtggmjiddadjilajC1
import Derived.WalkLawsBesides
import Derived.WalkSpells
import Derived.Lib.SmallJoins
import Derived.Deep.RegionWith
import Derived.Deep.QuietTactic
import Derived.BigQuiet
import Derived.Deep.Cut
namespace Go.Proofs.Ytggmjiddadjilaj
open Go.RowKit

set_option maxRecDepth 100000 in
set_option maxHeartbeats 400000 in
theorem specTxtOk (s:ByteArray) (w:World) (hs:s.size≤maxLen) :
  Calls Try.prog 64 #[.string s] w fun e w'=>e=.returned (.bool (txtOkB s))∧w'=w:=by
 unfold maxLen at hs
 by_cases h30:s.size≤30
 ·go_enter Try.func64,Try.ntmps64
  go_wp2
  go_loop [3] (fun i=>∃ k:Nat,k≤s.size∧i=.int .i64 k∧∀ j,j < k→goodB s j=true) (fun i=>s.size - (intOf i).toNat)
  case atStart=>exact ⟨0,Nat.zero_le _,rfl,fun j hj=>absurd hj (Nat.not_lt_zero _)⟩
  case round =>
   obtain ⟨k,hk,rfl,hall0⟩:=hrel
   have HA:Hid (∀ j,j < k→goodB s j=true):=hall0
   clear hall0
   by_cases hlt:k < s.size
   ·have hb:(s[k].toNat:Int) < 256:=by have:=s[k].toNat_lt;omega
    have HC:Hid (ch s k=(s[k].toNat:Int)):=ch_at hlt
    by_cases hc:(s[k].toNat:Int)=32
    ·have hc':((s[k].toNat:Int) == 32)=true:=beq_iff_eq.2 hc
     have HE:Hid (ch s k=32):=HC.out.trans hc
     clear hc HC hb
     by_cases h0:k=0
     ·as_aux_lemma =>
       subst h0
       have hbad:goodB s 0=false:=by simp [goodB,HE.out]
       have HB:Hid (txtOkB s=false):=txtOkB_bad 0 hlt hbad
       clear hbad HE HA
       go_wp2
       go_ret
       exact ⟨ret_bool HB.out.symm,rfl⟩
     ·have h0':((k:Int) == 0)=false:=beq_eq_false_iff_ne.2 (by omega)
      by_cases h1:k+1=s.size
      ·as_aux_lemma =>
        have h1':((k:Int) == (s.size:Int) - 1)=true:=beq_iff_eq.2 (by omega)
        have hbad:goodB s k=false:=by simp [goodB,HE.out,h1]
        have HB:Hid (txtOkB s=false):=txtOkB_bad k hlt hbad
        clear hbad HE HA h1 h0
        go_wp2
        go_ret
        exact ⟨ret_bool HB.out.symm,rfl⟩
      ·have h1':((k:Int) == (s.size:Int) - 1)=false:=beq_eq_false_iff_ne.2 (by omega)
       have hl2:k - 1 < s.size:=by omega
       have HP:Hid (ch s (k - 1)=(s[k - 1].toNat:Int)):=ch_at hl2
       by_cases hp:(s[k - 1].toNat:Int)=32
       ·as_aux_lemma =>
         have hp':((s[k - 1].toNat:Int) == 32)=true:=beq_iff_eq.2 hp
         have hbad:goodB s k=false:=by simp [goodB,HE.out,HP.out,hp]
         have HB:Hid (txtOkB s=false):=txtOkB_bad k hlt hbad
         clear hbad HE HA HP hp
         go_wp2
         go_ret
         exact ⟨ret_bool HB.out.symm,rfl⟩
       ·as_aux_lemma =>
         have hp':((s[k - 1].toNat:Int) == 32)=false:=beq_eq_false_iff_ne.2 hp
         have hc2:((s[k].toNat:Int) != 32)=false:=by rw [bne,hc'];rfl
         have hgood:goodB s k=true:=by simp [goodB,HE.out,HP.out,hp,h0,h1]
         have HN:Hid (∀ j,j < k+1→goodB s j=true):=next_all HA.out hgood
         clear hgood HE HA HP hp
         go_wp2
         go_round
         case rel=>exact ⟨k+1,by omega,by go_num,HN.out⟩
         case measure=>simp [intOf];omega
    ·have hc':((s[k].toNat:Int) == 32)=false:=beq_eq_false_iff_ne.2 hc
     have hc2:((s[k].toNat:Int) != 32)=true:=bne_iff_ne.2 hc
     by_cases hr:97≤(s[k].toNat:Int)∧(s[k].toNat:Int)≤122
     ·as_aux_lemma =>
       obtain ⟨hr1,hr2⟩:=hr
       have hgood:goodB s k=true:=by simp [goodB,HC.out];omega
       have HN:Hid (∀ j,j < k+1→goodB s j=true):=next_all HA.out hgood
       clear hgood HC HA hc
       go_wp2
       go_round
       case rel=>exact ⟨k+1,by omega,by go_num,HN.out⟩
       case measure=>simp [intOf];omega
     ·have hbad:goodB s k=false:=by simp [goodB,HC.out];omega
      have HB:Hid (txtOkB s=false):=txtOkB_bad k hlt hbad
      clear hbad HC HA hc
      by_cases hr1:97≤(s[k].toNat:Int)
      ·as_aux_lemma =>
        have hr2:¬ (s[k].toNat:Int)≤122:=by omega
        clear hr
        go_wp2
        go_ret
        exact ⟨ret_bool HB.out.symm,rfl⟩
      ·as_aux_lemma =>
        clear hr
        go_wp2
        go_ret
        exact ⟨ret_bool HB.out.symm,rfl⟩
   ·go_wp2
    go_ret
    exact ⟨ret_bool (txtOkB_all h30 (fun i hi=>HA.out i (by omega))).symm,rfl⟩
 ·go_enter Try.func64,Try.ntmps64
  go_wp2
  go_ret
  exact ⟨ret_bool (txtOkB_long h30).symm,rfl⟩
end Go.Proofs.Ytggmjiddadjilaj
namespace Go.Proofs.Ytggmjiddadjilaj
open Go.RowKit

def cellOkB (s:ByteArray) (c r a1 b1 a2 b2 a3 b3 a4 b4:Int):Bool:=txtOkB s && (inB c 1 4 && (inB r 1 4 && (brdOkB a1 b1 && (brdOkB a2 b2 && (brdOkB a3 b3 && brdOkB a4 b4)))))
theorem Hid.mk {p:Prop} (h:p):Hid p:=h
end Go.Proofs.Ytggmjiddadjilaj
namespace Go.Proofs.Ytggmjiddadjilaj
open Go.RowKit

def colB (k n:Int):Bool:=decide (k=0∧n=0∨k=1∧0≤n∧n≤60∨k=2∧1≤n∧n≤100)
theorem colB_0 (n:Int):colB 0 n=inB n 0 0:=by rw [Bool.eq_iff_iff];simp [colB,inB];omega
theorem colB_0' (n:Int):colB 0 n=(n == 0):=by rw [Bool.eq_iff_iff];simp [colB]
theorem colB_1 (n:Int):colB 1 n=inB n 0 60:=by rw [Bool.eq_iff_iff];simp [colB,inB]
theorem colB_2 (n:Int):colB 2 n=inB n 1 100:=by rw [Bool.eq_iff_iff];simp [colB,inB]
theorem colB_no {k:Int} (n:Int) (h0:k ≠ 0) (h1:k ≠ 1) (h2:k ≠ 2):colB k n=false:=by simp [colB];omega
end Go.Proofs.Ytggmjiddadjilaj
namespace Go.Proofs.Ytggmjiddadjilaj
open Go.RowKit

def cB (x:C):Bool:=cellOkB x.s x.c x.r x.a1 x.b1 x.a2 x.b2 x.a3 x.b3 x.a4 x.b4
def rowB (r:R):Bool:=decide (r.cells.length≤5) && r.cells.all cB
def colsB (ps:List (Int × Int)):Bool:=decide (ps.length≤8) && ps.all (fun p=>colB p.1 p.2)
def partsB (n:Nat) (hd ft:Int):Bool:=inB hd 0 n && inB ft 0 (n - hd)
theorem all_true {α:Type} (d:α) (p:α→Bool) (l:List α) (h:∀ j,j < l.length→p (l.getD j d)=true):l.all p=true:=by
 rw [List.all_eq_true]
 intro x hx
 obtain ⟨j,hj,rfl⟩:=List.getElem_of_mem hx
 have e:l.getD j d=l[j]:=by simp [List.getD,hj]
 rw [← e];exact h j hj
theorem all_false {α:Type} (d:α) (p:α→Bool) (l:List α) (k:Nat) (hk:k < l.length) (h:p (l.getD k d)=false):l.all p=false:=by
 have e:l.getD k d=l[k]:=by simp [List.getD,hk]
 rw [e] at h
 cases hb:l.all p with
 | false=>rfl
 | true=>rw [List.all_eq_true.1 hb _ (List.getElem_mem hk)] at h;cases h
theorem next_true {α:Type} {d:α} {p:α→Bool} {l:List α} {k:Nat} (h:∀ j,j < k→p (l.getD j d)=true) (hk:p (l.getD k d)=true):∀ j,j < k+1→p (l.getD j d)=true:=by
 intro j hj
 rcases Nat.lt_or_eq_of_le (Nat.lt_succ_iff.1 hj) with h1 | h1
 ·exact h j h1
 ·rw [h1];exact hk
def tblB (t:T):Bool:=inB t.rows.length 1 8 && (partsB t.rows.length t.head t.foot && (inB t.gap 0 3 && (colsB t.cols && t.rows.all rowB)))
theorem newestO (w:World) (q:Obj):(w.alloc q).heap[w.heap.size]?=some q:=by show (w.heap.push q)[w.heap.size]?=_;simp
theorem fiveO {w:World} {g:Nat} {x0 x1 x2 x3 x4:Value} {t:TypeId} (h:w.heap[g]?=some (.cells #[x0,x1,x2,x3,x4] t)) :
  w.cell? ⟨g,0,none⟩=some x0∧w.cell? ⟨g,1,none⟩=some x1∧w.cell? ⟨g,2,none⟩=some x2∧w.cell? ⟨g,3,none⟩=some x3∧w.cell? ⟨g,4,none⟩=some x4 :=
 ⟨Joins.cell_of_block h 0,Joins.cell_of_block h 1,Joins.cell_of_block h 2,Joins.cell_of_block h 3,Joins.cell_of_block h 4⟩
end Go.Proofs.Ytggmjiddadjilaj
namespace Go.Proofs.Ytggmjiddadjilaj
open Go.RowKit

/-- nothing -/
def zT:T:=⟨[],0,0,[],0⟩
def cellsInV (t:T) (row:Int):Int:=if inB row 0 ((t.rows.length:Int) - 1)=true then ((t.rows.getD row.toNat dR).cells.length:Int) else -1
def hasB (t:T) (row at':Int):Bool:=inB at' 0 (cellsInV t row - 1)
theorem hasB_iff {t:T} {row at':Int}:hasB t row at'=true ↔ ∃ r a:Nat,row=r∧at'=a∧r < t.rows.length∧a < (t.rows.getD r dR).cells.length:=by
 unfold hasB cellsInV
 constructor
 ·intro h
  simp only [inB,decide_eq_true_eq] at h
  split at h
  ·rename_i h1
   refine ⟨row.toNat,at'.toNat,by omega,by omega,by omega,by omega⟩
  ·omega
 ·rintro ⟨r,a,rfl,rfl,h1,h2⟩
  rw [if_pos (inB_true (by omega) (by omega)),Int.toNat_natCast]
  exact inB_true (by omega) (by omega)
/-- one row's cells others -/
def setRow (t:T) (r:Nat) (cs:List C):T:=⟨t.cols,t.head,t.foot,t.rows.set r ⟨cs,(t.rows.getD r dR).whole⟩,t.gap⟩

theorem OwnC.put {w:World} {B:Nat} {g cap:Nat} {cs:List C} (h:OwnC w B (.slice (some ⟨g,0,none⟩) cs.length cap) cs) {a j:Nat} (ha:a < cs.length) (hj:j < 11) {x:C} {v:Value} (hx:cellVs x=(cellVs cs[a]).set j v) :
  OwnC (w.setCell ⟨g,a * 11+j,none⟩ v) B (.slice (some ⟨g,0,none⟩) cs.length cap) (cs.set a x):=by
 rcases h.2 with ⟨e,_⟩ | ⟨g',cap',cur,e,hg,hc,a1,a2,a3,a4⟩
 ·simp at e
 ·simp only [Value.slice.injEq,Option.some.injEq,Addr.mk.injEq,and_true,true_and] at e
  obtain ⟨rfl,rfl⟩:=e
  refine ⟨flat_len cellVs 11 (fun _=>rfl) _,.inr ⟨g,cap,cur.setIfInBounds (a * 11+j) v,by rw [List.length_set],hg,setB hc _,by rw [List.length_set];exact a1,a2,by rw [Array.size_setIfInBounds];exact a3,?_⟩⟩
  refine flat_take cellVs 11 (fun _=>rfl) (cs.set a x) (cur.setIfInBounds (a * 11+j) v) (by rw [List.length_set,Array.size_setIfInBounds,a3];omega) (fun i hi0 m hm=>?_)
  have hi:i < cs.length:=by rw [List.length_set] at hi0;exact hi0
  have hold:cur[i * 11+m]?=(cellVs cs[i])[m]?:=by
   have e:=flat_get cellVs 11 (fun _=>rfl) cs i hi m hm
   rw [← a4,List.getElem?_take_of_lt (by omega),Array.getElem?_toList] at e
   exact e
  by_cases hia:i=a
  ·subst hia
   rw [List.getElem_set_self,hx]
   by_cases hmj:m=j
   ·subst hmj
    rw [Array.getElem?_setIfInBounds_self_of_lt (by rw [a3];omega),List.getElem?_set_self (by show m < 11;exact hm)]
   ·rw [Array.getElem?_setIfInBounds_ne (by omega),List.getElem?_set_ne (by omega)]
    exact hold
  ·rw [List.getElem_set_ne (by omega),Array.getElem?_setIfInBounds_ne (by omega)]
   exact hold
/-- one row of a table that is owned: its cells others, in their block -/
theorem OwnR.upd {w w1:World} {base:Nat} {v:Value} {ur:List (Value × R)} (h:OwnR w base v ur) {i:Nat} {p:Value × R} (hi:ur[i]?=some p) {r:R} (hw:r.whole=p.2.whole) (hc:OwnC w1 base p.1 r.cells) (k:w.grownBy w1 p.1.ownBlock):OwnR w1 base v (ur.set i (p.1,r)):=by
 have hil:i < ur.length:=(List.getElem?_eq_some_iff.1 hi).1
 have ep:ur[i]=p:=by rw [List.getElem?_eq_getElem hil] at hi;exact Option.some.inj hi
 have hpm:p ∈ ur:=List.mem_of_getElem? hi
 have K1:Off 0 none p.1.ownBlock w w1:=Off.grown k
 have hnn:∀ u:Value,u.ownBlock=none∨u.ownBlock ≠ none:=fun u=>by rcases hb:u.ownBlock with _ | b;exact .inl rfl;exact .inr (by simp)
 have hne:v.ownBlock=none∨v.ownBlock ≠ p.1.ownBlock:=row_ne h.own (h.cells p hpm) (by decide)
 have h1:=row_off h.own K1 (Nat.zero_le _) (hnn v) hne
 have hfst:∀ j,(hj:j < ur.length)→((ur.set i (p.1,r))[j]'(by rw [List.length_set];exact hj)).1=ur[j].1:=fun j hj=>by
  by_cases hji:j=i
  ·subst hji
   rw [List.getElem_set_self,ep]
  ·rw [List.getElem_set_ne (by omega)]
 have hfl:(ur.set i (p.1,r)).flatMap rowVs=ur.flatMap rowVs:=by
  apply List.ext_getElem?
  intro q
  have l1:=flat_len rowVs 2 (fun _=>rfl) (ur.set i (p.1,r))
  have l2:=flat_len rowVs 2 (fun _=>rfl) ur
  rw [List.length_set] at l1
  by_cases hq:q < ur.length * 2
  ·have e:q=q / 2 * 2+q % 2:=by omega
   have b1:=flat_get rowVs 2 (fun _=>rfl) (ur.set i (p.1,r)) (q / 2) (by rw [List.length_set];omega) (q % 2) (by omega)
   have b2:=flat_get rowVs 2 (fun _=>rfl) ur (q / 2) (by omega) (q % 2) (by omega)
   rw [← e] at b1 b2
   rw [b1,b2]
   by_cases hji:q / 2=i
   ·subst hji
    rw [List.getElem_set_self,ep,rowVs,rowVs,hw]
   ·rw [List.getElem_set_ne (by omega)]
  ·rw [List.getElem?_eq_none (by omega),List.getElem?_eq_none (by omega)]
 refine ⟨?_,fun q hq=>?_,?_⟩
 ·rw [hfl,List.length_set]
  exact h1
 ·obtain ⟨j,hj0,rfl⟩:=List.mem_iff_getElem.1 hq
  have hj:j < ur.length:=by rw [List.length_set] at hj0;exact hj0
  by_cases hji:j=i
  ·subst hji
   rw [List.getElem_set_self]
   exact hc
  ·rw [List.getElem_set_ne (by omega)]
   have hap:ur[j].1.ownBlock=none∨ur[j].1.ownBlock ≠ p.1.ownBlock:=by
    have hp:=List.pairwise_iff_getElem.1 h.apart
    rcases Nat.lt_or_gt_of_ne hji with hl | hl
    ·rw [← ep];exact hp j i hj hil hl
    ·have:=hp i j hil hj hl
     rw [ep] at this
     rcases hb:ur[j].1.ownBlock with _ | b
     ·exact .inl rfl
     ·refine .inr (fun e=>?_)
      rcases this with e1 | e1
      ·rw [e1] at e;cases e
      ·exact e1 (e.symm.trans hb.symm)
   exact row_off (h.cells _ (List.getElem_mem hj)) K1 (Nat.zero_le _) (hnn _) hap
 ·rw [List.pairwise_iff_getElem]
  have hp:=List.pairwise_iff_getElem.1 h.apart
  intro a b ha0 hb0 hab
  have ha:a < ur.length:=by rw [List.length_set] at ha0;exact ha0
  have hb:b < ur.length:=by rw [List.length_set] at hb0;exact hb0
  rw [hfst a ha,hfst b hb]
  exact hp a b ha hb hab
theorem OwnC.atM {w:World} {base:Nat} {u:Value} {cs:List C} (h:OwnC w base u cs) (hs:∀ x ∈ cs,x.s.size≤maxLen):CellsAt w base u cs:=by
 rcases h.2 with ⟨rfl,hn⟩ | ⟨g,cap,cur,rfl,hg,hc,h1,h2,_⟩
 ·exact ⟨none,0,by rw [hn],by omega,by unfold maxLen;omega,fun i hi=>by omega⟩
 ·refine ⟨_,cap,rfl,h1,h2,fun i hi=>⟨g,0,rfl,(Array.getElem?_eq_some_iff.1 hc).1,hg,?_,?_⟩⟩
  ·have hx:∀ j,j < 11→w.cell? ⟨g,i * 11+j,none⟩=(cellVs cs[i])[j]?:=fun j hj=>by
    have e:=flat_get cellVs 11 (fun _=>rfl) cs i hi j hj
    rw [row_cell h (u:=(cellVs cs[i])[j]'(by show j < 11;exact hj)) (by rw [e];simp)]
    simp
   rw [getD_get dC hi,Nat.zero_add]
   exact ⟨hx 0 (by omega),hx 1 (by omega),hx 2 (by omega),hx 3 (by omega),hx 4 (by omega),hx 5 (by omega),hx 6 (by omega),hx 7 (by omega),hx 8 (by omega),hx 9 (by omega),hx 10 (by omega)⟩
  ·rw [getD_get dC hi]
   exact hs _ (List.getElem_mem hi)
theorem OwnR.atM {w:World} {base:Nat} {v:Value} {ur:List (Value × R)} (h:OwnR w base v ur) (hs:∀ p ∈ ur,∀ x ∈ p.2.cells,x.s.size≤maxLen):RowsAt w base v (ur.map (·.2)):=by
 have hl:(ur.map (·.2)).length=ur.length:=by simp
 rcases h.own.2 with ⟨rfl,hn⟩ | ⟨g,cap,cur,rfl,hg,hc,h1,h2,_⟩
 ·exact ⟨none,0,by rw [hl,hn],by rw [hl];omega,by unfold maxLen;omega,fun i hi=>by rw [hl] at hi;omega⟩
 ·refine ⟨_,cap,by rw [hl],by rw [hl];exact h1,h2,fun i hi=>⟨g,0,rfl,(Array.getElem?_eq_some_iff.1 hc).1,hg,?_⟩⟩
  rw [hl] at hi
  have hx:∀ j,j < 2→w.cell? ⟨g,i * 2+j,none⟩=(rowVs ur[i])[j]?:=fun j hj=>by
   have e:=flat_get rowVs 2 (fun _=>rfl) ur i hi j hj
   rw [row_cell h.own (u:=(rowVs ur[i])[j]'(by show j < 2;exact hj)) (by rw [e];simp)]
   simp
  have hm:=List.getElem_mem hi
  dsimp only
  rw [getD_get dR (by rw [hl];exact hi),Nat.zero_add,List.getElem_map]
  exact ⟨ur[i].1,hx 0 (by omega),hx 1 (by omega),(h.cells _ hm).atM (hs _ hm)⟩
/-- no text is too long to be one -/
def TxM (t:T):Prop:=∀ r ∈ t.rows,∀ x ∈ r.cells,x.s.size≤maxLen
theorem OwnT.cols {w:World} {base:Nat} {vc vr:Value} {t:T} (h:OwnT w base vc vr t):ColsAt w base vc t.cols:=by
 obtain ⟨_,_,a,_⟩:=h
 exact a.at
theorem OwnT.rows {w:World} {base:Nat} {vc vr:Value} {t:T} (h:OwnT w base vc vr t) (hs:TxM t):RowsAt w base vr t.rows:=by
 obtain ⟨ur,e,_,b⟩:=h
 rw [← e]
 exact b.atM (fun p hp=>hs p.2 (by rw [← e];exact List.mem_map_of_mem hp))
theorem OwnT.kept {w w':World} {base:Nat} {vc vr:Value} {t:T} (h:OwnT w base vc vr t) (k:Below w.heap.size w w'):OwnT w' base vc vr t:=h.since (.of_below k)
theorem txM_at {w:World} {z:Nat} {v:Value} {rs:List R} (h:RowsAt w z v rs):∀ r ∈ rs,∀ x ∈ r.cells,x.s.size≤maxLen:=by
 intro r hr x hx
 obtain ⟨i,hi,rfl⟩:=List.mem_iff_getElem.1 hr
 obtain ⟨_,_,_,_,_,_,_,u,_,_,hc⟩:=At.get h hi
 rw [getD_get dR hi] at hc
 obtain ⟨j,hj,rfl⟩:=List.mem_iff_getElem.1 hx
 obtain ⟨_,_,_,_,_,_,_,_,hs⟩:=At.get hc hj
 rw [getD_get dC hj] at hs
 exact hs
end Go.Proofs.Ytggmjiddadjilaj
namespace Go.Proofs.Ytggmjiddadjilaj
open Go.RowKit

theorem OwnD.put {w W9:World} {B D:Nat} {vc vr:Value} {cols:List (Int × Int)} {ur:List (Value × R)} (h:OwnD w B D vc vr cols ur) (hb:Below w.heap.size w W9) {r a j:Nat} {p:Value × R} (hp:ur[r]?=some p) {g cap:Nat} (hpv:p.1=.slice (some ⟨g,0,none⟩) p.2.cells.length cap) (ha:a < p.2.cells.length) (hj:j < 11) {x:C} {v:Value} (hx:cellVs x=(cellVs p.2.cells[a]).set j v) :
  OwnD (W9.setCell ⟨g,a * 11+j,none⟩ v) B D vc vr cols (ur.set r (p.1,⟨p.2.cells.set a x,p.2.whole⟩)):=by
 have h9:=h.kept hb
 have hpm:p ∈ ur:=List.mem_of_getElem? hp
 have hC:=h9.2.1.cells p hpm
 rw [hpv] at hC
 have hC2:=OwnC.put hC ha hj hx
 have hG:W9.grownBy (W9.setCell ⟨g,a * 11+j,none⟩ v) p.1.ownBlock:=by rw [hpv];exact grown_set (grown_refl _ _) rfl _
 have hR:=h9.2.1.upd hp (r:=⟨p.2.cells.set a x,p.2.whole⟩) rfl (by rw [hpv];simpa [OwnC] using hC2) hG
 refine ⟨?_,hR,h.2.2.1,h.2.2.2.1,fun q hq b e=>?_⟩
 ·have hne:=row_ne h9.1 (h9.2.1.cells p hpm) (by decide)
  exact row_off h9.1 (Off.grown (b1:=none) (n:=0) hG) (Nat.zero_le _) (by rcases hb:vc.ownBlock with _ | b;exact .inl rfl;exact .inr (by simp)) hne
 ·rcases List.mem_or_eq_of_mem_set hq with hm | rfl
  ·exact h.2.2.2.2 q hm b e
  ·exact h.2.2.2.2 p hpm b e
/-- it stays where one block that is not its own is turned -/
theorem OwnD.other {W W':World} {B D n:Nat} {vc vr:Value} {cols:List (Int × Int)} {ur:List (Value × R)} (h:OwnD W B D vc vr cols ur) (hn:D≤n) (hk:∀ k,k ≠ n→W'.heap[k]?=W.heap[k]?):OwnD W' B D vc vr cols ur:=by
 obtain ⟨h1,h2,h3,h4,h5⟩:=h
 have key:∀ {e:TypeId} {sz:Nat} {v:Value} {m:Nat} {xs:List Value},W.ownsRow B e sz v m xs→(∀ b,v.ownBlock=some b→b < D)→W'.ownsRow B e sz v m xs:=fun h hv=>by
  refine ⟨h.1,h.2.elim Or.inl (fun ⟨g,cap,cur,e,hg,hc,q⟩=>Or.inr ⟨g,cap,cur,e,hg,?_,q⟩)⟩
  have hgD:g < D:=hv g (by rw [e];rfl)
  exact (hk g (by omega)).trans hc
 exact ⟨key h1 h3,⟨key h2.own h4,fun p hp=>key (h2.cells p hp) (h5 p hp),h2.apart⟩,h3,h4,h5⟩
theorem below_other {w W W':World} (h:Below w.heap.size w W) {n:Nat} (hn:w.heap.size≤n) (hk:∀ k,k ≠ n→W'.heap[k]?=W.heap[k]?) (hs:W'.heap.size=W.heap.size) (ho:W'.os=W.os) (ht:W'.tape=W.tape) (hu:W'.output=W.output):Below w.heap.size w W' :=
 ⟨ho.trans h.os,ht.trans h.tape,hu.trans h.output,by rw [hs];exact h.size,fun k h1=>(hk k (by omega)).trans (h.block k h1)⟩
/-- a row's cells, as an owned table has them -/
theorem own_row {w:World} {B:Nat} {vr:Value} {ur:List (Value × R)} (h:OwnR w B vr ur) {r:Nat} {p:Value × R} (hp:ur[r]?=some p) {a:Nat} (ha:a < p.2.cells.length):∃ g cap cur,p.1=.slice (some ⟨g,0,none⟩) p.2.cells.length cap∧w.heap[g]?=some (.cells cur 41)∧p.2.cells.length≤cap∧cap≤maxLen∧cur.size=cap * 11:=by
 rcases (h.cells p (List.mem_of_getElem? hp)).2 with ⟨_,e⟩ | ⟨g,cap,cur,e,hg,hc,a1,a2,a3,_⟩
 ·omega
 ·exact ⟨g,cap,cur,e,hc,a1,a2,a3⟩
theorem map_set_snd (ur:List (Value × R)) (r:Nat) (q:Value × R):(ur.set r q).map (·.2)=(ur.map (·.2)).set r q.2:=by simp
theorem own_lt {w:World} {B D:Nat} {vc vr:Value} {cols:List (Int × Int)} {ur:List (Value × R)} (h:OwnD w B D vc vr cols ur) {t:T} (hc:t.cols=cols) (hr:ur.map (·.2)=t.rows):OwnT w B vc vr t:=⟨ur,hr,by rw [hc];exact h.1,h.2.1⟩
end Go.Proofs.Ytggmjiddadjilaj
namespace Go.Proofs.Ytggmjiddadjilaj
open Go.RowKit

/-- bounds of a table that is ok -/
theorem tbl_bounds {t:T} (h:tblB t=true):t.cols.length≤8∧1≤t.rows.length∧t.rows.length≤8∧∀ i,i < t.rows.length→(t.rows.getD i dR).cells.length≤5:=by
 simp only [tblB,colsB,inB,Bool.and_eq_true,decide_eq_true_eq,List.all_eq_true] at h
 obtain ⟨h1,_,_,⟨h4,_⟩,h5⟩:=h
 refine ⟨h4,by omega,by omega,fun i hi=>?_⟩
 have:=h5 _ (List.getElem_mem hi)
 rw [getD_get dR hi]
 simp only [rowB,Bool.and_eq_true,decide_eq_true_eq] at this
 exact this.1
end Go.Proofs.Ytggmjiddadjilaj
namespace Go.Proofs.Ytggmjiddadjilaj
open Go.RowKit

/-- a table of few rows and cells -/
structure SmT (t:T):Prop where
 cols:t.cols.length≤8
 rows:t.rows.length≤9
 cells:∀ i,i < t.rows.length→(t.rows.getD i dR).cells.length≤6
theorem txM_z:TxM zT:=fun r hr=>absurd hr (by simp [zT])
theorem txM_set {t:T} (h:TxM t) {r:Nat} {cs:List C} (hc:∀ x ∈ cs,x.s.size≤maxLen):TxM (setRow t r cs):=by
 intro q hq x hx
 rcases List.mem_or_eq_of_mem_set hq with hm | rfl
 ·exact h q hm x hx
 ·exact hc x hx
theorem Out.kept {w W W':World} {n B D:Nat} (h:Below n w W) (k:Out B D W W') (hn:n≤B):Below n w W':=h.trans (k.below.mono hn)
theorem box_kept {W W':World} {b:Nat} {o:Obj} (h:W.heap[b]?=some o) (k:Below W.heap.size W W'):W'.heap[b]?=some o:=(k.block b (Array.getElem?_eq_some_iff.1 h).1).trans h
end Go.Proofs.Ytggmjiddadjilaj
namespace Go.Proofs.Ytggmjiddadjilaj
open Go.RowKit

/-- a table behind a cell taken out -/
def edTake (t:T) (row at':Int):T × Bool :=
 if tblB t=true then (if hasB t row at'=true then (setRow t row.toNat ((t.rows.getD row.toNat dR).cells.eraseIdx at'.toNat),true) else (t,false)) else (zT,false)
theorem txM_take {t:T} (ht:TxM t) {row at':Int}:TxM (edTake t row at').1:=by
 unfold edTake
 split
 ·split
  ·rename_i h2
   obtain ⟨r,a,rfl,rfl,hr,ha⟩:=hasB_iff.1 h2
   refine txM_set ht (fun x hx=>?_)
   rw [Int.toNat_natCast,getD_get dR hr] at hx
   exact ht _ (List.getElem_mem hr) x (List.mem_of_mem_eraseIdx hx)
  ·exact ht
 ·exact txM_z
/-- one row of a table that is owned: its slice of cells another one -/
theorem OwnR.slice {w1:World} {base:Nat} {v:Value} {ur:List (Value × R)} {i g cap:Nat} (hv:v=.slice (some ⟨g,0,none⟩) ur.length cap) {p:Value × R} (hi:ur[i]?=some p) {u:Value} {r:R} (hw:r.whole=p.2.whole)
  (hR:w1.ownsRow base 52 2 v ur.length (ur.flatMap rowVs)) (hC:∀ j,j ≠ i→∀ q,ur[j]?=some q→OwnC w1 base q.1 q.2.cells) (hc:OwnC w1 base u r.cells)
  (ha:ur.Pairwise fun p q=>p.1.ownBlock=none∨p.1.ownBlock ≠ q.1.ownBlock) (hu:∀ j,j ≠ i→∀ q,ur[j]?=some q→q.1.ownBlock=none∨q.1.ownBlock ≠ u.ownBlock) :
  OwnR (w1.setCell ⟨g,i * 2,none⟩ u) base v (ur.set i (u,r)):=by
 have hil:i < ur.length:=(List.getElem?_eq_some_iff.1 hi).1
 have ep:ur[i]=p:=by rw [List.getElem?_eq_getElem hil] at hi;exact Option.some.inj hi
 have hvg:v.ownBlock=some g:=by rw [hv];rfl
 have hS:Off 0 (some g) none w1 (w1.setCell ⟨g,i * 2,none⟩ u):=Off.set w1 ⟨g,i * 2,none⟩ rfl _
 have hnn:∀ u:Value,u.ownBlock=none∨u.ownBlock ≠ none:=fun u=>by rcases hb:u.ownBlock with _ | b;exact .inl rfl;exact .inr (by simp)
 have hcw:∀ {x:Value} {cs:List C},OwnC w1 base x cs→OwnC (w1.setCell ⟨g,i * 2,none⟩ u) base x cs:=fun h=>by
  refine row_off h hS (Nat.zero_le _) ?_ (hnn _)
  rcases row_ne h hR (by decide) with e | e
  ·exact .inl e
  ·exact .inr (by rw [← hvg];exact e)
 refine ⟨?_,fun q hq=>?_,?_⟩
 ·rcases hR.2 with ⟨e,_⟩ | ⟨g',cap',cur,e,hg',hcur,a1,a2,a3,a4⟩
  ·rw [hv] at e;simp at e
  ·rw [hv] at e
   simp only [Value.slice.injEq,Option.some.injEq,Addr.mk.injEq,and_true,true_and] at e
   obtain ⟨rfl,rfl⟩:=e
   refine ⟨by rw [flat_len rowVs 2 (fun _=>rfl)],.inr ⟨g,cap,cur.setIfInBounds (i * 2) u,by rw [List.length_set];exact hv,hg',setB hcur _,by rw [List.length_set];exact a1,a2,by rw [Array.size_setIfInBounds];exact a3,?_⟩⟩
   refine flat_take rowVs 2 (fun _=>rfl) (ur.set i (u,r)) (cur.setIfInBounds (i * 2) u) (by rw [List.length_set,Array.size_setIfInBounds,a3];omega) (fun j hj0 m hm=>?_)
   have hj:j < ur.length:=by rw [List.length_set] at hj0;exact hj0
   have hold:cur[j * 2+m]?=(rowVs ur[j])[m]?:=by
    have e:=flat_get rowVs 2 (fun _=>rfl) ur j hj m hm
    rw [← a4,List.getElem?_take_of_lt (by omega),Array.getElem?_toList] at e
    exact e
   by_cases hji:j=i
   ·subst hji
    rw [List.getElem_set_self]
    match m,hm with
    | 0,_ =>
     rw [Nat.add_zero,Array.getElem?_setIfInBounds_self_of_lt (by rw [a3];omega)]
     rfl
    | 1,_ =>
     rw [Array.getElem?_setIfInBounds_ne (by omega),hold,ep]
     show some (Value.bool p.2.whole)=some (Value.bool r.whole)
     rw [hw]
   ·rw [List.getElem_set_ne (by omega),Array.getElem?_setIfInBounds_ne (by omega)]
    exact hold
 ·obtain ⟨j,hj0,rfl⟩:=List.mem_iff_getElem.1 hq
  have hj:j < ur.length:=by rw [List.length_set] at hj0;exact hj0
  by_cases hji:j=i
  ·subst hji
   rw [List.getElem_set_self]
   exact hcw hc
  ·rw [List.getElem_set_ne (by omega)]
   exact hcw (hC j hji _ (List.getElem?_eq_getElem hj))
 ·rw [List.pairwise_iff_getElem] at ha ⊢
  intro x y hx0 hy0 hxy
  have hx:x < ur.length:=by rw [List.length_set] at hx0;exact hx0
  have hy:y < ur.length:=by rw [List.length_set] at hy0;exact hy0
  by_cases hxi:x=i
  ·subst hxi
   rw [List.getElem_set_self,List.getElem_set_ne (by omega)]
   rcases hb:u.ownBlock with _ | b
   ·exact .inl rfl
   ·refine .inr (fun e=>?_)
    rcases hu y (by omega) _ (List.getElem?_eq_getElem hy) with h1 | h1
    ·rw [h1] at e;cases e
    ·exact h1 (e.symm.trans hb.symm)
  ·by_cases hyi:y=i
   ·subst hyi
    rw [List.getElem_set_self,List.getElem_set_ne (by omega)]
    exact hu x (by omega) _ (List.getElem?_eq_getElem hx)
   ·rw [List.getElem_set_ne (by omega),List.getElem_set_ne (by omega)]
    exact ha x y hx hy hxy
/-- the same block, its cells others -/
theorem OwnD.take {w W9:World} {B D:Nat} {vc vr:Value} {cols:List (Int × Int)} {ur:List (Value × R)} (h:OwnD w B D vc vr cols ur) {r g cg:Nat} (hv:vr=.slice (some ⟨g,0,none⟩) ur.length cg) {p:Value × R} (hp:ur[r]?=some p) {b:Nat} (hpb:p.1.ownBlock=some b) (hG:w.grownBy W9 (some b)) {u:Value} {cs:List C} (hub:u.ownBlock=some b) (hc:OwnC W9 B u cs) :
  OwnD (W9.setCell ⟨g,r * 2,none⟩ u) B D vc vr cols (ur.set r (u,⟨cs,p.2.whole⟩)):=by
 have hpm:p ∈ ur:=List.mem_of_getElem? hp
 have hrl:r < ur.length:=(List.getElem?_eq_some_iff.1 hp).1
 have ep:ur[r]=p:=by rw [List.getElem?_eq_getElem hrl] at hp;exact Option.some.inj hp
 have hnn:∀ u:Value,u.ownBlock=none∨u.ownBlock ≠ none:=fun u=>by rcases hb:u.ownBlock with _ | b;exact .inl rfl;exact .inr (by simp)
 have hG':w.grownBy W9 p.1.ownBlock:=by rw [hpb];exact hG
 have K1:Off 0 none p.1.ownBlock w W9:=Off.grown hG'
 have hR:=row_off h.2.1.own K1 (Nat.zero_le _) (hnn vr) (row_ne h.2.1.own (h.2.1.cells p hpm) (by decide))
 have hap:∀ j,j ≠ r→∀ q,ur[j]?=some q→q.1.ownBlock=none∨q.1.ownBlock ≠ p.1.ownBlock:=fun j hj q hq=>by
  have hjl:j < ur.length:=(List.getElem?_eq_some_iff.1 hq).1
  have eq:ur[j]=q:=by rw [List.getElem?_eq_getElem hjl] at hq;exact Option.some.inj hq
  have hpw:=List.pairwise_iff_getElem.1 h.2.1.apart
  rcases Nat.lt_or_gt_of_ne hj with hl | hl
  ·rw [← ep,← eq];exact hpw j r hjl hrl hl
  ·have:=hpw r j hrl hjl hl
   rw [ep,eq] at this
   rcases hb:q.1.ownBlock with _ | b'
   ·exact .inl rfl
   ·refine .inr (fun e=>?_)
    rcases this with e1 | e1
    ·rw [e1] at e;cases e
    ·exact e1 (e.symm.trans hb.symm)
 have hC:∀ j,j ≠ r→∀ q,ur[j]?=some q→OwnC W9 B q.1 q.2.cells:=fun j hj q hq=>row_off (h.2.1.cells q (List.mem_of_getElem? hq)) K1 (Nat.zero_le _) (hnn _) (hap j hj q hq)
 have hO:=OwnR.slice (r:=⟨cs,p.2.whole⟩) hv hp rfl hR hC hc h.2.1.apart (fun j hj q hq=>by rw [hub,← hpb];exact hap j hj q hq)
 have hgB:vr.ownBlock=some g:=by rw [hv];rfl
 refine ⟨?_,hO,h.2.2.1,h.2.2.2.1,fun q hq b' e=>?_⟩
 ·have c1:=row_off h.1 K1 (Nat.zero_le _) (hnn vc) (row_ne h.1 (h.2.1.cells p hpm) (by decide))
  have hS:Off 0 (some g) none W9 (W9.setCell ⟨g,r * 2,none⟩ u):=Off.set W9 ⟨g,r * 2,none⟩ rfl _
  refine row_off c1 hS (Nat.zero_le _) ?_ (hnn _)
  rcases row_ne c1 hR (by decide) with e | e
  ·exact .inl e
  ·exact .inr (by rw [← hgB];exact e)
 ·rcases List.mem_or_eq_of_mem_set hq with hm | rfl
  ·exact h.2.2.2.2 q hm b' e
  ·rw [hub] at e
   exact h.2.2.2.2 p hpm b' (by rw [hpb];exact e)
end Go.Proofs.Ytggmjiddadjilaj
