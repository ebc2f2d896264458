/-
  PROVED HERE: what is known of a table that was drawn. Also: how many cells rows have together. Also: small facts on lists of numbers and their sums. Also: what the laws' own pwInts answers of two lists of numbers in memory that are the same; nothing that was in memory is turned. Also: the laws' own pwOk says true; nothing in memory is turned.
-/
import Derived.Test.YtggmjiddadjilacC14
import Derived.Test.YtggmjiddadjilacC6
import Derived.Test.YtggmjiddadjilacC7
import Derived.WalkLawsBesides
import Derived.WalkSpells
import Derived.Deep.RegionWith
import Derived.Deep.QuietTactic
import Derived.BigQuiet
namespace Go.Proofs.Ytggmjiddadjilac
open Go.RowKit

/-- what is known of a table that was drawn -/
structure Drawn (t:T):Prop where
 rows:t.rows.length≤9
 cols:t.cols.length≤9
 head:-1≤t.head∧t.head≤9
 foot:-1≤t.foot∧t.foot≤9
 gap:-1≤t.gap∧t.gap≤4
 cells:∀ r ∈ t.rows,∀ x ∈ r.cells,Cx x
 few:∃ k,∀ i,(t.rows.getD i dR).cells.length≤if i=k then 5 else 4
/-- what l20Table hands over, in numbers -/
theorem drawn_of {t:T} {ur:List (Value × R)} (h:tblB t=true) (e:t.rows=ur.map (·.2)):(1≤ur.length∧ur.length≤8)∧t.cols.length≤8∧(0≤t.head∧t.head≤8)∧(0≤t.foot∧t.foot≤8)∧0≤t.gap∧t.gap≤3:=by
 have hl:t.rows.length=ur.length:=by rw [e];simp
 simp only [tblB,partsB,inB,colsB,Bool.and_eq_true,decide_eq_true_eq] at h
 omega
theorem few_of {ur:List (Value × R)} (hs:∀ p ∈ ur,p.2.cells.length≤4∧∀ x ∈ p.2.cells,Cx x):∃ k,∀ i,((ur.map (·.2)).getD i dR).cells.length≤if i=k then 5 else 4:=by
 refine ⟨0,fun i=>?_⟩
 have h4:((ur.map (·.2)).getD i dR).cells.length≤4:=by
  by_cases hi:i < ur.length
  ·rw [getD_get dR (by simpa using hi),List.getElem_map]
   exact (hs _ (List.getElem_mem hi)).1
  ·simp [List.getD,hi,dR]
 split <;> omega
theorem cells_of {ur:List (Value × R)} (hs:∀ p ∈ ur,p.2.cells.length≤4∧∀ x ∈ p.2.cells,Cx x):∀ r ∈ ur.map (·.2),∀ x ∈ r.cells,Cx x:=fun r hr x hx=>by
 obtain ⟨p,hp,rfl⟩:=List.mem_map.1 hr
 exact (hs p hp).2 x hx
end Go.Proofs.Ytggmjiddadjilac
namespace Go.Proofs.Ytggmjiddadjilac
open Go.RowKit

def cnTo (rs:List R) (k:Nat):Nat:=((rs.take k).map (fun x=>x.cells.length)).sum
end Go.Proofs.Ytggmjiddadjilac
namespace Go.Proofs.Ytggmjiddadjilac
open Go.RowKit

/-- numbers that may be weights -/
def wtB (n:Int):Bool:=decide (0≤n∧n≤100000)
def shrOkB (t:Int) (l:List Int):Bool:=wtB t && decide (l.length≤100) && l.all wtB
def sumTo (l:List Int) (k:Nat):Int:=(l.take k).sum
end Go.Proofs.Ytggmjiddadjilac
namespace Go.Proofs.Ytggmjiddadjilac
open Go.RowKit

set_option maxRecDepth 100000 in
set_option maxHeartbeats 1000000 in
theorem pwInts_any (v1 v2:Value) (l:List Int) (w:World) (h1:IntsAt w v1 l) (h2:IntsAt w v2 l) :
  Calls Try.prog 20 #[v1,v2] w fun e w'=>e=.returned (.bool true)∧∃ n,w'=w.drewN n:=by
 obtain ⟨a1,cap1,rfl,hlen⟩:=h1.form
 obtain ⟨a2,cap2,rfl,_⟩:=h2.form
 have hne:((l.length:Int) != (l.length:Int))=false:=by simp
 have H1:=Hid.intro h1
 have H2:=Hid.intro h2
 clear h1 h2
 go_enter Try.func20,Try.ntmps20
 go_wp2_with fail
 go_loopw [5] (fun i W=>∃ k n:Nat,k≤l.length∧i=.int .i64 k∧W=w.drewN n) (fun i _=>l.length - (intOf i).toNat)
 case atStart=>exact ⟨0,0,Nat.zero_le _,rfl,rfl⟩
 case round =>
  obtain ⟨k,nd,hk,rfl,rfl⟩:=hrel
  by_cases hlt:k < l.length
  ·obtain ⟨b1,off1,cap1',e1,hc11,hc12,hbl1,x0⟩:=H1.out.get hlt
   simp only [Value.slice.injEq,true_and] at e1
   obtain ⟨rfl,rfl⟩:=e1
   obtain ⟨b2,off2,cap2',e2,hc21,hc22,hbl2,y0⟩:=H2.out.get hlt
   simp only [Value.slice.injEq,true_and] at e2
   obtain ⟨rfl,rfl⟩:=e2
   unfold maxLen at hc12 hc22
   generalize l.getD k 0=x at x0 y0
   have hxx:(x != x)=false:=by simp
   go_wp2_with fail
   go_quiet (fail)
   go_wp2
   go_roundw
   case rel=>exact ⟨k+1,nd+nq,by omega,by go_num,rfl⟩
   case measure=>simp [intOf];omega
  ·go_wp2
   go_ret
   exact ⟨rfl,nd,rfl⟩
end Go.Proofs.Ytggmjiddadjilac
namespace Go.Proofs.Ytggmjiddadjilac
open Go.RowKit

theorem abcOk:txtOkB ⟨#[97,98,32,99]⟩=true:=by decide +kernel
theorem pwOk_any (w:World):Calls Try.prog 13 #[] w fun e w'=>e=.returned (.bool true)∧w'=w:=by
 go_enter Try.func13,Try.ntmps13
 go_wp2_with fail
 refine (implTxtOk _ _ (by unfold maxLen;decide)).mono ?_
 rw [abcOk]
 rintro e w1 ⟨rfl,rfl⟩
 go_wp2
 go_ret
 exact ⟨rfl,rfl⟩
end Go.Proofs.Ytggmjiddadjilac
