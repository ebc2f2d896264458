/-
  PROVED HERE: what is known of a table that was drawn. Also: how many cells rows have together. Also: small facts on places of a grid, for the other texts of this claim. Also: what the program's GrdFind answers at a grid that lies in memory: the first cell of a kind; nothing that was in memory is turned. Also: what the model's GrdFind answers at a grid that lies in memory: the first cell of a kind; nothing that was in memory is turned. Also: the laws' own pwOk says true; nothing in memory is turned.
-/
import Derived.Test.YtggmjiddadjilacD14
import Derived.Test.YtggmjiddadjilacD6
import Derived.Test.YtggmjiddadjilacD7
import Derived.WalkLawsBesides
import Derived.WalkSpells
namespace Go.Proofs.Ytggmjiddadjilac
open Go.RowKit

/-- what is known of a table that was drawn -/
structure Drawn (t:T):Prop where
 rows:t.rows.length≤9
 cols:t.cols.length≤9
 head:-1≤t.head∧t.head≤9
 foot:-1≤t.foot∧t.foot≤9
 gap:-1≤t.gap∧t.gap≤4
 cells:∀ r ∈ t.rows,∀ x ∈ r.cells,Cx x
 few:∃ k,∀ i,(t.rows.getD i dR).cells.length≤if i=k then 5 else 4
/-- what l20Table hands over, in numbers -/
theorem drawn_of {t:T} {ur:List (Value × R)} (h:tblB t=true) (e:t.rows=ur.map (·.2)):(1≤ur.length∧ur.length≤8)∧t.cols.length≤8∧(0≤t.head∧t.head≤8)∧(0≤t.foot∧t.foot≤8)∧0≤t.gap∧t.gap≤3:=by
 have hl:t.rows.length=ur.length:=by rw [e];simp
 simp only [tblB,partsB,inB,colsB,Bool.and_eq_true,decide_eq_true_eq] at h
 omega
theorem few_of {ur:List (Value × R)} (hs:∀ p ∈ ur,p.2.cells.length≤4∧∀ x ∈ p.2.cells,Cx x):∃ k,∀ i,((ur.map (·.2)).getD i dR).cells.length≤if i=k then 5 else 4:=by
 refine ⟨0,fun i=>?_⟩
 have h4:((ur.map (·.2)).getD i dR).cells.length≤4:=by
  by_cases hi:i < ur.length
  ·rw [getD_get dR (by simpa using hi),List.getElem_map]
   exact (hs _ (List.getElem_mem hi)).1
  ·simp [List.getD,hi,dR]
 split <;> omega
theorem cells_of {ur:List (Value × R)} (hs:∀ p ∈ ur,p.2.cells.length≤4∧∀ x ∈ p.2.cells,Cx x):∀ r ∈ ur.map (·.2),∀ x ∈ r.cells,Cx x:=fun r hr x hx=>by
 obtain ⟨p,hp,rfl⟩:=List.mem_map.1 hr
 exact (hs p hp).2 x hx
end Go.Proofs.Ytggmjiddadjilac
namespace Go.Proofs.Ytggmjiddadjilac
open Go.RowKit

def cnTo (rs:List R) (k:Nat):Nat:=((rs.take k).map (fun x=>x.cells.length)).sum
end Go.Proofs.Ytggmjiddadjilac
namespace Go.Proofs.Ytggmjiddadjilac
open Go.RowKit

def isIn (row ins:Int) (x:GC):Bool:=(x.row == row) && (x.ins == ins)
/-- whether a place is one of so many from a first one on -/
def amongB (x first many:Int):Bool:=decide (first≤x) && decide (0 < many) && decide (x - first < many)
def holdsB (row col:Int) (x:GC):Bool:=amongB row x.row x.rows && amongB col x.col x.cols

end Go.Proofs.Ytggmjiddadjilac
namespace Go.Proofs.Ytggmjiddadjilac
open Go.RowKit

set_option maxRecDepth 100000 in
set_option maxHeartbeats 1000000 in
theorem implGrdFind (a b:Int) (ac:Option Addr) (cc:Nat) (gs:List GC) (row ins:Int) (w:World) {z:Nat} (h:GsAt w z (.slice ac gs.length cc) gs) :
  Calls Try.prog 16 #[.agg #[.int .i64 a,.int .i64 b,.slice ac gs.length cc],.int .i64 row,.int .i64 ins] w fun e w'=>e=.returned (.int .i64 (findTo (isIn row ins) gs))∧Below w.heap.size w w':=by
 obtain ⟨_,_,_,hlen⟩:=At.form h
 unfold maxLen at hlen
 have H:=Hid.intro h
 clear h
 go_enter Try.func16,Try.ntmps16
 go_wp2_with fail
 go_loopw [12] (fun i W=>∃ k:Nat,k≤gs.length∧i=.int .i64 k∧Hid (∀ j,j < k→isIn row ins (gs.getD j dG)=false)∧Hid (Below w.heap.size w W)) (fun i _=>gs.length - (intOf i).toNat)
 case atStart=>exact ⟨0,Nat.zero_le _,rfl,fun j hj=>absurd hj (Nat.not_lt_zero _),k_alloc (Below.refl _ _) _⟩
 case round =>
  obtain ⟨k,hk,rfl,HA,HB⟩:=hrel
  by_cases hlt:k < gs.length
  ·obtain ⟨q,off,cap',e',hc1,hc2,hbl,hx,hs⟩:=At.get (H.out.kept HB.out) hlt
   simp only [Value.slice.injEq,true_and] at e'
   obtain ⟨rfl,rfl⟩:=e'
   have HH:Hid (isIn row ins (gs.getD k dG)=true→findTo (isIn row ins) gs=(k:Int)):=fun hp=>findTo_hit hlt HA.out hp
   have HN:Hid (isIn row ins (gs.getD k dG)=false→∀ j,j < k+1→isIn row ins (gs.getD j dG)=false):=fun hp j hj=>by
    rcases Nat.lt_or_eq_of_le (Nat.lt_succ_iff.1 hj) with h1 | rfl
    ·exact HA.out j h1
    ·exact hp
   generalize gs.getD k dG=x at hx hs HH HN
   obtain ⟨x0,x1,x2,x3,x4⟩:=hx
   unfold maxLen at hc2
   clear hs
   cases h1:(x.row == row) with
   | false =>
    have HF:=Hid.intro (HN.out (by simp [isIn,h1]))
    clear HH HN HA
    go_wp2
    go_roundw
    case rel=>exact ⟨k+1,by omega,by go_num,HF,k_alloc HB.out _⟩
    case measure=>simp [intOf];omega
   | true =>
    cases h2:(x.ins == ins) with
    | false =>
     have HF:=Hid.intro (HN.out (by simp [isIn,h2]))
     clear HH HN HA
     go_wp2
     go_roundw
     case rel=>exact ⟨k+1,by omega,by go_num,HF,k_alloc HB.out _⟩
     case measure=>simp [intOf];omega
    | true =>
     have HF:=Hid.intro (HH.out (by simp only [isIn,h1,h2,Bool.and_self]))
     clear HH HN HA
     go_wp2
     go_ret
     exact ⟨by rw [HF.out];rfl,k_alloc HB.out _⟩
  ·obtain rfl:k=gs.length:=by omega
   have HF:=Hid.intro (findTo_none HA.out)
   clear HA
   go_wp2
   go_ret
   exact ⟨by rw [HF.out];rfl,HB.out⟩

end Go.Proofs.Ytggmjiddadjilac
namespace Go.Proofs.Ytggmjiddadjilac
open Go.RowKit

set_option maxRecDepth 100000 in
set_option maxHeartbeats 1000000 in
theorem specGrdFind (a b:Int) (ac:Option Addr) (cc:Nat) (gs:List GC) (row ins:Int) (w:World) {z:Nat} (h:GsAt w z (.slice ac gs.length cc) gs) :
  Calls Try.prog 17 #[.agg #[.int .i64 a,.int .i64 b,.slice ac gs.length cc],.int .i64 row,.int .i64 ins] w fun e w'=>e=.returned (.int .i64 (findTo (isIn row ins) gs))∧Below w.heap.size w w':=by
 obtain ⟨_,_,_,hlen⟩:=At.form h
 unfold maxLen at hlen
 have H:=Hid.intro (h.kept (k_alloc (Below.refl _ _) (.cells #[.int .i64 a,.int .i64 b,.slice ac gs.length cc] 25)))
 clear h
 go_enter Try.func17,Try.ntmps17
 go_wp2_with fail
 go_loop [7] (fun i=>∃ k:Nat,k≤gs.length∧i=.int .i64 k∧Hid (∀ j,j < k→isIn row ins (gs.getD j dG)=false)) (fun i=>gs.length - (intOf i).toNat)
 case atStart=>exact ⟨0,Nat.zero_le _,rfl,fun j hj=>absurd hj (Nat.not_lt_zero _)⟩
 case round =>
  obtain ⟨k,hk,rfl,HA⟩:=hrel
  by_cases hlt:k < gs.length
  ·obtain ⟨q,off,cap',e',hc1,hc2,hbl,hx,hs⟩:=At.get H.out hlt
   simp only [Value.slice.injEq,true_and] at e'
   obtain ⟨rfl,rfl⟩:=e'
   have HH:Hid (isIn row ins (gs.getD k dG)=true→findTo (isIn row ins) gs=(k:Int)):=fun hp=>findTo_hit hlt HA.out hp
   have HN:Hid (isIn row ins (gs.getD k dG)=false→∀ j,j < k+1→isIn row ins (gs.getD j dG)=false):=fun hp j hj=>by
    rcases Nat.lt_or_eq_of_le (Nat.lt_succ_iff.1 hj) with h1 | rfl
    ·exact HA.out j h1
    ·exact hp
   generalize gs.getD k dG=x at hx hs HH HN
   obtain ⟨x0,x1,x2,x3,x4⟩:=hx
   unfold maxLen at hc2
   clear hs x1 x2 x3
   cases h1:(x.row == row) with
   | false =>
    have HF:=Hid.intro (HN.out (by simp [isIn,h1]))
    clear HH HN HA
    go_wp2
    go_round
    case rel=>exact ⟨k+1,by omega,by go_num,HF⟩
    case measure=>simp [intOf];omega
   | true =>
    cases h2:(x.ins == ins) with
    | false =>
     have HF:=Hid.intro (HN.out (by simp [isIn,h2]))
     clear HH HN HA
     go_wp2
     go_round
     case rel=>exact ⟨k+1,by omega,by go_num,HF⟩
     case measure=>simp [intOf];omega
    | true =>
     have HF:=Hid.intro (HH.out (by simp only [isIn,h1,h2,Bool.and_self]))
     clear HH HN HA
     go_wp2
     go_ret
     exact ⟨by rw [HF.out];rfl,k_alloc (Below.refl _ _) _⟩
  ·obtain rfl:k=gs.length:=by omega
   have HF:=Hid.intro (findTo_none HA.out)
   clear HA
   go_wp2
   go_ret
   exact ⟨by rw [HF.out];rfl,k_alloc (Below.refl _ _) _⟩

end Go.Proofs.Ytggmjiddadjilac
namespace Go.Proofs.Ytggmjiddadjilac
open Go.RowKit

theorem abcOk:txtOkB ⟨#[97,98,32,99]⟩=true:=by decide +kernel
theorem pwOk_any (w:World):Calls Try.prog 13 #[] w fun e w'=>e=.returned (.bool true)∧w'=w:=by
 go_enter Try.func13,Try.ntmps13
 go_wp2_with fail
 refine (implTxtOk _ _ (by unfold maxLen;decide)).mono ?_
 rw [abcOk]
 rintro e w1 ⟨rfl,rfl⟩
 go_wp2
 go_ret
 exact ⟨rfl,rfl⟩
end Go.Proofs.Ytggmjiddadjilac
