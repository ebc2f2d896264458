/-
  PROVED HERE: what is known of a table that was drawn. Also: how many cells rows have together. Also: the laws' own pwOk says true; nothing in memory is turned.
-/
import Derived.Test.YtggmjiddadjilajH14
import Derived.Test.YtggmjiddadjilajH6
import Derived.Test.YtggmjiddadjilajH7
import Derived.WalkLawsBesides
import Derived.WalkSpells
namespace Go.Proofs.Ytggmjiddadjilaj
open Go.RowKit

/-- what is known of a table that was drawn -/
structure Drawn (t:T):Prop where
 rows:t.rows.length≤9
 cols:t.cols.length≤9
 head:-1≤t.head∧t.head≤9
 foot:-1≤t.foot∧t.foot≤9
 gap:-1≤t.gap∧t.gap≤4
 cells:∀ r ∈ t.rows,∀ x ∈ r.cells,Cx x
 few:∃ k,∀ i,(t.rows.getD i dR).cells.length≤if i=k then 5 else 4
/-- what l20Table hands over, in numbers -/
theorem drawn_of {t:T} {ur:List (Value × R)} (h:tblB t=true) (e:t.rows=ur.map (·.2)):(1≤ur.length∧ur.length≤8)∧t.cols.length≤8∧(0≤t.head∧t.head≤8)∧(0≤t.foot∧t.foot≤8)∧0≤t.gap∧t.gap≤3:=by
 have hl:t.rows.length=ur.length:=by rw [e];simp
 simp only [tblB,partsB,inB,colsB,Bool.and_eq_true,decide_eq_true_eq] at h
 omega
theorem few_of {ur:List (Value × R)} (hs:∀ p ∈ ur,p.2.cells.length≤4∧∀ x ∈ p.2.cells,Cx x):∃ k,∀ i,((ur.map (·.2)).getD i dR).cells.length≤if i=k then 5 else 4:=by
 refine ⟨0,fun i=>?_⟩
 have h4:((ur.map (·.2)).getD i dR).cells.length≤4:=by
  by_cases hi:i < ur.length
  ·rw [getD_get dR (by simpa using hi),List.getElem_map]
   exact (hs _ (List.getElem_mem hi)).1
  ·simp [List.getD,hi,dR]
 split <;> omega
theorem cells_of {ur:List (Value × R)} (hs:∀ p ∈ ur,p.2.cells.length≤4∧∀ x ∈ p.2.cells,Cx x):∀ r ∈ ur.map (·.2),∀ x ∈ r.cells,Cx x:=fun r hr x hx=>by
 obtain ⟨p,hp,rfl⟩:=List.mem_map.1 hr
 exact (hs p hp).2 x hx
end Go.Proofs.Ytggmjiddadjilaj
namespace Go.Proofs.Ytggmjiddadjilaj
open Go.RowKit

def cnTo (rs:List R) (k:Nat):Nat:=((rs.take k).map (fun x=>x.cells.length)).sum
end Go.Proofs.Ytggmjiddadjilaj
namespace Go.Proofs.Ytggmjiddadjilaj
open Go.RowKit

theorem abcOk:txtOkB ⟨#[97,98,32,99]⟩=true:=by decide +kernel
theorem pwOk_any (w:World):Calls Try.prog 12 #[] w fun e w'=>e=.returned (.bool true)∧w'=w:=by
 go_enter Try.func12,Try.ntmps12
 go_wp2_with fail
 refine (implTxtOk _ _ (by unfold maxLen;decide)).mono ?_
 rw [abcOk]
 rintro e w1 ⟨rfl,rfl⟩
 go_wp2
 go_ret
 exact ⟨rfl,rfl⟩
end Go.Proofs.Ytggmjiddadjilaj
