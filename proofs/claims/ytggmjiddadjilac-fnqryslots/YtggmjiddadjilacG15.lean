/-
  PROVED HERE: what is known of a table that was drawn. Also: how many cells rows have together. Also: lists of texts that own their memory, for the other texts of this claim. Also: what the program's reaches answers at every argument; nothing in memory is turned. Also: what the program's GrdAt answers at a grid that lies in memory: the first cell that has a slot; nothing that was in memory is turned. Also: what the model's l1Among answers at every argument; nothing in memory is turned. Also: what the model's GrdAt answers at a grid that lies in memory: the first cell that has a slot; nothing that was in memory is turned. Also: lists of texts in memory: they stay where what was in memory stays; put together with blanks. Also: the laws' own pwTexts says true of one and the same list of texts in two places. Also: the laws' own pwOk says true; nothing in memory is turned.
-/
import Derived.Test.YtggmjiddadjilacG14
import Derived.Test.YtggmjiddadjilacG6
import Derived.Test.YtggmjiddadjilacG7
import Derived.WalkLawsBesides
import Derived.WalkSpells
import Derived.Laws.AppendOwn
import Derived.Deep.QuietTactic
import Derived.BigQuiet
import Derived.WideShapes
namespace Go.Proofs.Ytggmjiddadjilac
open Go.RowKit

/-- what is known of a table that was drawn -/
structure Drawn (t:T):Prop where
 rows:t.rows.length≤9
 cols:t.cols.length≤9
 head:-1≤t.head∧t.head≤9
 foot:-1≤t.foot∧t.foot≤9
 gap:-1≤t.gap∧t.gap≤4
 cells:∀ r ∈ t.rows,∀ x ∈ r.cells,Cx x
 few:∃ k,∀ i,(t.rows.getD i dR).cells.length≤if i=k then 5 else 4
/-- what l20Table hands over, in numbers -/
theorem drawn_of {t:T} {ur:List (Value × R)} (h:tblB t=true) (e:t.rows=ur.map (·.2)):(1≤ur.length∧ur.length≤8)∧t.cols.length≤8∧(0≤t.head∧t.head≤8)∧(0≤t.foot∧t.foot≤8)∧0≤t.gap∧t.gap≤3:=by
 have hl:t.rows.length=ur.length:=by rw [e];simp
 simp only [tblB,partsB,inB,colsB,Bool.and_eq_true,decide_eq_true_eq] at h
 omega
theorem few_of {ur:List (Value × R)} (hs:∀ p ∈ ur,p.2.cells.length≤4∧∀ x ∈ p.2.cells,Cx x):∃ k,∀ i,((ur.map (·.2)).getD i dR).cells.length≤if i=k then 5 else 4:=by
 refine ⟨0,fun i=>?_⟩
 have h4:((ur.map (·.2)).getD i dR).cells.length≤4:=by
  by_cases hi:i < ur.length
  ·rw [getD_get dR (by simpa using hi),List.getElem_map]
   exact (hs _ (List.getElem_mem hi)).1
  ·simp [List.getD,hi,dR]
 split <;> omega
theorem cells_of {ur:List (Value × R)} (hs:∀ p ∈ ur,p.2.cells.length≤4∧∀ x ∈ p.2.cells,Cx x):∀ r ∈ ur.map (·.2),∀ x ∈ r.cells,Cx x:=fun r hr x hx=>by
 obtain ⟨p,hp,rfl⟩:=List.mem_map.1 hr
 exact (hs p hp).2 x hx
end Go.Proofs.Ytggmjiddadjilac
namespace Go.Proofs.Ytggmjiddadjilac
open Go.RowKit

def cnTo (rs:List R) (k:Nat):Nat:=((rs.take k).map (fun x=>x.cells.length)).sum
end Go.Proofs.Ytggmjiddadjilac
namespace Go.Proofs.Ytggmjiddadjilac
open Go.RowKit

def eS:ByteArray:=ByteArray.empty
/-- a list of texts, in a block of its own, at B or behind it -/
def RowS (w:World) (B:Nat) (v:Value) (l:List ByteArray):Prop :=
 (v=.slice none 0 0∧l=[])∨∃ g cap cur,v=.slice (some ⟨g,0,none⟩) l.length cap∧B≤g∧w.heap[g]?=some (.cells cur 9 (0,0))∧l.length≤cap∧cap≤maxLen∧cur.size=cap∧∀ i,i < l.length→cur[i]?=some (.string (l.getD i eS))
theorem RowS.of_owns {w:World} {B:Nat} {v:Value} {l:List ByteArray} (h:w.ownsRow B 9 1 v l.length (l.map Value.string)):RowS w B v l:=by
 rcases h.2 with ⟨hv,h0⟩ | ⟨g,cap,cur,hv,hb,hg,h1,h2,h3,h4⟩
 ·exact .inl ⟨hv,List.eq_nil_of_length_eq_zero h0⟩
 ·refine .inr ⟨g,cap,cur,hv,hb,hg,h1,h2,by omega,fun i hi=>?_⟩
  have:cur.toList[i]?=(l.map Value.string)[i]?:=by rw [← h4,List.getElem?_take_of_lt (by omega)]
  rw [← Array.getElem?_toList,this]
  simp [List.getD,hi]
theorem RowS.below {w w':World} {B C:Nat} {v:Value} {l:List ByteArray} (h:RowS w B v l) (k:Below C w w') (hC:w.heap.size≤C):RowS w' B v l:=by
 rcases h with h | ⟨g,cap,cur,hv,hb,hg,r⟩
 ·exact .inl h
 ·exact .inr ⟨g,cap,cur,hv,hb,(k.block g (Nat.lt_of_lt_of_le (Array.getElem?_eq_some_iff.1 hg).1 hC)).trans hg,r⟩
theorem RowS.base {w:World} {B B':Nat} {v:Value} {l:List ByteArray} (h:RowS w B v l) (hB:B'≤B):RowS w B' v l:=by
 rcases h with h | ⟨g,cap,cur,hv,hb,r⟩
 ·exact .inl h
 ·exact .inr ⟨g,cap,cur,hv,Nat.le_trans hB hb,r⟩
theorem RowS.form {w:World} {B:Nat} {v:Value} {l:List ByteArray} (h:RowS w B v l):∃ a cap,v=.slice a l.length cap:=by
 rcases h with ⟨rfl,rfl⟩ | ⟨g,cap,cur,hv,_⟩
 ·exact ⟨none,0,rfl⟩
 ·exact ⟨_,_,hv⟩
theorem RowS.get {w:World} {B:Nat} {v:Value} {l:List ByteArray} (h:RowS w B v l) {i:Nat} (hi:i < l.length) :
  ∃ g cap,v=.slice (some ⟨g,0,none⟩) l.length cap∧B≤g∧g < w.heap.size∧l.length≤cap∧cap≤maxLen∧w.cell? ⟨g,i,none⟩=some (.string (l.getD i eS))∧w.frozen? ⟨g,i,none⟩=false:=by
 rcases h with ⟨_,rfl⟩ | ⟨g,cap,cur,hv,hb,hg,h1,h2,h3,h4⟩
 ·cases hi
 ·exact ⟨g,cap,hv,hb,(Array.getElem?_eq_some_iff.1 hg).1,h1,h2,(cellB hg).trans (h4 i hi),freeB hg⟩
theorem RowS.set {w:World} {B g cap n:Nat} {l:List ByteArray} (h:RowS w B (.slice (some ⟨g,0,none⟩) n cap) l) {i:Nat} (hi:i < l.length) (x:ByteArray):RowS (w.setCell ⟨g,i,none⟩ (.string x)) B (.slice (some ⟨g,0,none⟩) n cap) (l.set i x):=by
 rcases h with ⟨hv,_⟩ | ⟨g',cap',cur,hv,hb,hg,h1,h2,h3,h4⟩
 ·simp at hv
 ·simp only [Value.slice.injEq,Option.some.injEq,Addr.mk.injEq,and_true] at hv
  obtain ⟨rfl,rfl,rfl⟩:=hv
  refine .inr ⟨g,cap,cur.setIfInBounds i (.string x),by simp,hb,setB hg _,by simpa using h1,h2,by simpa using h3,fun j hj=>?_⟩
  rw [List.length_set] at hj
  by_cases e:i=j
  ·subst e
   simp [List.getD,hj,show i < cur.size by omega]
  ·rw [Array.getElem?_setIfInBounds_ne e,h4 j hj]
   simp [List.getD,e]
end Go.Proofs.Ytggmjiddadjilac
namespace Go.Proofs.Ytggmjiddadjilac
open Go.RowKit

theorem reaches_any (x f m:Int) (hx:I64 x) (hf:I64 f) (hm:I64 m) (w:World) :
  Calls Try.prog 39 #[.int .i64 f,.int .i64 m,.int .i64 x] w fun e w'=>e=.returned (.bool (amongB x f m))∧w'=w:=by
 unfold I64 at hx hf hm
 by_cases h1:f≤x
 ·by_cases h2:0 < m
  ·have e:amongB x f m=decide (x - f < m):=by simp [amongB];omega
   rw [e]
   go_enter Try.func39,Try.ntmps39
   go_wp2
   go_ret
   exact ⟨ret_boolG (by rw [wrap_sub hx hf h1]),rfl⟩
  ·have e:amongB x f m=false:=by simp [amongB];omega
   rw [e]
   go_enter Try.func39,Try.ntmps39
   go_wp2
   go_ret
   exact ⟨rfl,rfl⟩
 ·have e:amongB x f m=false:=by simp [amongB];omega
  rw [e]
  go_enter Try.func39,Try.ntmps39
  go_wp2
  go_ret
  exact ⟨rfl,rfl⟩
end Go.Proofs.Ytggmjiddadjilac
namespace Go.Proofs.Ytggmjiddadjilac
open Go.RowKit

set_option maxRecDepth 100000 in
set_option maxHeartbeats 1000000 in
theorem implGrdAt (a b:Int) (ac:Option Addr) (cc:Nat) (gs:List GC) (row col:Int) (hr:I64 row) (hc:I64 col) (w:World) {z:Nat} (h:GsAt w z (.slice ac gs.length cc) gs) :
  Calls Try.prog 14 #[.agg #[.int .i64 a,.int .i64 b,.slice ac gs.length cc],.int .i64 row,.int .i64 col] w fun e w'=>e=.returned (.int .i64 (findTo (holdsB row col) gs))∧Below w.heap.size w w':=by
 obtain ⟨_,_,_,hlen⟩:=At.form h
 unfold maxLen at hlen
 have H:=Hid.intro h
 clear h
 go_enter Try.func14,Try.ntmps14
 go_wp2_with fail
 go_loopw [12] (fun i W=>∃ k:Nat,k≤gs.length∧i=.int .i64 k∧Hid (∀ j,j < k→holdsB row col (gs.getD j dG)=false)∧Hid (Below w.heap.size w W)) (fun i _=>gs.length - (intOf i).toNat)
 case atStart=>exact ⟨0,Nat.zero_le _,rfl,fun j hj=>absurd hj (Nat.not_lt_zero _),k_alloc (Below.refl _ _) _⟩
 case round =>
  obtain ⟨k,hk,rfl,HA,HB⟩:=hrel
  by_cases hlt:k < gs.length
  ·obtain ⟨q,off,cap',e',hc1,hc2,hbl,hx,hs⟩:=At.get (H.out.kept HB.out) hlt
   simp only [Value.slice.injEq,true_and] at e'
   obtain ⟨rfl,rfl⟩:=e'
   have HH:Hid (holdsB row col (gs.getD k dG)=true→findTo (holdsB row col) gs=(k:Int)):=fun hp=>findTo_hit hlt HA.out hp
   have HN:Hid (holdsB row col (gs.getD k dG)=false→∀ j,j < k+1→holdsB row col (gs.getD j dG)=false):=fun hp j hj=>by
    rcases Nat.lt_or_eq_of_le (Nat.lt_succ_iff.1 hj) with h1 | rfl
    ·exact HA.out j h1
    ·exact hp
   generalize gs.getD k dG=x at hx hs HH HN
   obtain ⟨x0,x1,x2,x3,x4⟩:=hx
   obtain ⟨b0,b1,b2,b3,_⟩:=hs
   have H1:=Hid.intro (reaches_any row x.row x.rows hr b0 b2)
   have H2:=Hid.intro (reaches_any col x.col x.cols hc b1 b3)
   unfold maxLen at hc2
   clear b0 b1 b2 b3
   cases h1:amongB row x.row x.rows with
   | false =>
    have HF:=Hid.intro (HN.out (by simp only [holdsB,h1,Bool.false_and]))
    rw [h1] at H1
    clear HH HN HA
    go_wp2_with fail
    refine (H1.out _).mono ?_
    rintro e w1 ⟨rfl,rfl⟩
    go_wp2
    go_roundw
    case rel=>exact ⟨k+1,by omega,by go_num,HF,k_alloc HB.out _⟩
    case measure=>simp [intOf];omega
   | true =>
    rw [h1] at H1
    cases h2:amongB col x.col x.cols with
    | false =>
     have HF:=Hid.intro (HN.out (by simp only [holdsB,h2,Bool.and_false]))
     rw [h2] at H2
     clear HH HN HA
     go_wp2_with fail
     refine (H1.out _).mono ?_
     rintro e w1 ⟨rfl,rfl⟩
     go_wp2_with fail
     refine (H2.out _).mono ?_
     rintro e w1 ⟨rfl,rfl⟩
     go_wp2
     go_roundw
     case rel=>exact ⟨k+1,by omega,by go_num,HF,k_alloc HB.out _⟩
     case measure=>simp [intOf];omega
    | true =>
     have HF:=Hid.intro (HH.out (by simp only [holdsB,h1,h2,Bool.and_self]))
     rw [h2] at H2
     clear HH HN HA
     go_wp2_with fail
     refine (H1.out _).mono ?_
     rintro e w1 ⟨rfl,rfl⟩
     go_wp2_with fail
     refine (H2.out _).mono ?_
     rintro e w1 ⟨rfl,rfl⟩
     go_wp2
     go_ret
     exact ⟨by rw [HF.out];rfl,k_alloc HB.out _⟩
  ·obtain rfl:k=gs.length:=by omega
   have HF:=Hid.intro (findTo_none HA.out)
   clear HA
   go_wp2
   go_ret
   exact ⟨by rw [HF.out];rfl,HB.out⟩

end Go.Proofs.Ytggmjiddadjilac
namespace Go.Proofs.Ytggmjiddadjilac
open Go.RowKit

theorem l1Among_any (x f m:Int) (hx:I64 x) (hf:I64 f) (hm:I64 m) (w:World) :
  Calls Try.prog 68 #[.int .i64 x,.int .i64 f,.int .i64 m] w fun e w'=>e=.returned (.bool (amongB x f m))∧w'=w:=by
 unfold I64 at hx hf hm
 by_cases h1:x < f
 ·have e:amongB x f m=false:=by simp [amongB];omega
  rw [e]
  go_enter Try.func68,Try.ntmps68
  go_wp2
  go_ret
  exact ⟨rfl,rfl⟩
 ·by_cases h2:m≤0
  ·have e:amongB x f m=false:=by simp [amongB];omega
   rw [e]
   go_enter Try.func68,Try.ntmps68
   go_wp2
   go_ret
   exact ⟨rfl,rfl⟩
  ·by_cases h3:f < 0
   ·by_cases h4:0≤x
    ·have e:amongB x f m=decide (x < m+f):=by
      have:decide (x - f < m)=decide (x < m+f):=by apply decide_eq_decide.2;omega
      simp only [amongB,this];simp;omega
     rw [e]
     go_enter Try.func68,Try.ntmps68
     go_wp2
     go_ret
     exact ⟨rfl,rfl⟩
    ·have e:amongB x f m=decide (x - f < m):=by simp [amongB];omega
     rw [e]
     go_enter Try.func68,Try.ntmps68
     go_wp2
     go_ret
     exact ⟨rfl,rfl⟩
   ·have e:amongB x f m=decide (x - f < m):=by simp [amongB];omega
    rw [e]
    go_enter Try.func68,Try.ntmps68
    go_wp2
    go_ret
    exact ⟨rfl,rfl⟩
end Go.Proofs.Ytggmjiddadjilac
namespace Go.Proofs.Ytggmjiddadjilac
open Go.RowKit

set_option maxRecDepth 100000 in
theorem l3Holds_any (x:GC) (hx:GOk x) (row col:Int) (hr:I64 row) (hc:I64 col) (w:World) :
  Calls Try.prog 58 #[.agg #[.int .i64 x.row,.int .i64 x.col,.int .i64 x.rows,.int .i64 x.cols,.int .i64 x.ins],.int .i64 row,.int .i64 col] w fun e w'=>e=.returned (.bool (holdsB row col x))∧Below w.heap.size w w':=by
 obtain ⟨h0,h1,h2,h3,_⟩:=hx
 unfold holdsB
 have H1:=Hid.intro (l1Among_any row x.row x.rows hr h0 h2)
 have H2:=Hid.intro (l1Among_any col x.col x.cols hc h1 h3)
 generalize amongB row x.row x.rows=p at H1 ⊢
 generalize amongB col x.col x.cols=q at H2 ⊢
 cases p with
 | false =>
  go_enter Try.func58,Try.ntmps58
  go_wp2_with fail
  refine (H1.out _).mono ?_
  rintro e w1 ⟨rfl,rfl⟩
  go_wp2
  go_ret
  exact ⟨rfl,k_alloc (Below.refl _ _) _⟩
 | true =>
  go_enter Try.func58,Try.ntmps58
  go_wp2_with fail
  refine (H1.out _).mono ?_
  rintro e w1 ⟨rfl,rfl⟩
  go_wp2_with fail
  refine (H2.out _).mono ?_
  rintro e w1 ⟨rfl,rfl⟩
  go_wp2
  go_ret
  exact ⟨by cases q <;> rfl,k_alloc (Below.refl _ _) _⟩

set_option maxRecDepth 100000 in
set_option maxHeartbeats 1000000 in
theorem specGrdAt (a b:Int) (ac:Option Addr) (cc:Nat) (gs:List GC) (row col:Int) (hr:I64 row) (hc:I64 col) (w:World) {z:Nat} (h:GsAt w z (.slice ac gs.length cc) gs) :
  Calls Try.prog 43 #[.agg #[.int .i64 a,.int .i64 b,.slice ac gs.length cc],.int .i64 row,.int .i64 col] w fun e w'=>e=.returned (.int .i64 (findTo (holdsB row col) gs))∧Below w.heap.size w w':=by
 obtain ⟨_,_,_,hlen⟩:=At.form h
 unfold maxLen at hlen
 have H:=Hid.intro h
 clear h
 have KA:=Hid.intro (k_alloc (Below.refl w.heap.size w) (.cells #[.int .i64 a,.int .i64 b,.slice ac gs.length cc] 25))
 go_enter Try.func43,Try.ntmps43
 go_wp2_with fail
 go_loopw [7] (fun i W=>∃ k:Nat,k≤gs.length∧i=.int .i64 k∧Hid (∀ j,j < k→holdsB row col (gs.getD j dG)=false)∧Hid (Below w.heap.size w W)∧Hid (W.heap[w.heap.size]?=some (.cells #[.int .i64 a,.int .i64 b,.slice ac gs.length cc] 25))) (fun i _=>gs.length - (intOf i).toNat)
 case atStart=>exact ⟨0,Nat.zero_le _,rfl,fun j hj=>absurd hj (Nat.not_lt_zero _),KA.out,newestB _ _⟩
 case round =>
  obtain ⟨k,hk,rfl,HA,HB,HX⟩:=hrel
  have g2:wr.cell? ⟨w.heap.size,2,none⟩=some (.slice ac gs.length cc):=cellB HX.out
  by_cases hlt:k < gs.length
  ·obtain ⟨q,off,cap',e',hc1,hc2,hbl,hx,hs⟩:=At.get (H.out.kept HB.out) hlt
   simp only [Value.slice.injEq,true_and] at e'
   obtain ⟨rfl,rfl⟩:=e'
   have HH:Hid (holdsB row col (gs.getD k dG)=true→findTo (holdsB row col) gs=(k:Int)):=fun hp=>findTo_hit hlt HA.out hp
   have HN:Hid (holdsB row col (gs.getD k dG)=false→∀ j,j < k+1→holdsB row col (gs.getD j dG)=false):=fun hp j hj=>by
    rcases Nat.lt_or_eq_of_le (Nat.lt_succ_iff.1 hj) with h1 | rfl
    ·exact HA.out j h1
    ·exact hp
   have HL:=Hid.intro (l3Holds_any (gs.getD k dG) hs row col hr hc)
   generalize gs.getD k dG=x at hx HH HN HL
   obtain ⟨x0,x1,x2,x3,x4⟩:=hx
   unfold maxLen at hc2
   clear hs
   cases h1:holdsB row col x with
   | false =>
    have HF:=Hid.intro (HN.out h1)
    rw [h1] at HL
    clear HH HN HA
    go_wp2_with fail
    refine (HL.out _).mono ?_
    rintro e w1 ⟨rfl,hb1⟩
    have HB1:=Hid.intro (k_trans HB.out hb1)
    have HX1:Hid (w1.heap[w.heap.size]?=some (.cells #[.int .i64 a,.int .i64 b,.slice (some ⟨q,off,none⟩) gs.length cc] 25)):=(hb1.block w.heap.size (lt_of_blockG HX.out)).trans HX.out
    clear hb1
    go_wp2
    go_roundw
    case rel=>exact ⟨k+1,by omega,by go_num,HF,HB1,HX1⟩
    case measure=>simp [intOf];omega
   | true =>
    have HF:=Hid.intro (HH.out h1)
    rw [h1] at HL
    clear HH HN HA
    go_wp2_with fail
    refine (HL.out _).mono ?_
    rintro e w1 ⟨rfl,hb1⟩
    have HB1:=Hid.intro (k_trans HB.out hb1)
    clear hb1
    go_wp2
    go_ret
    exact ⟨by rw [HF.out];rfl,HB1.out⟩
  ·obtain rfl:k=gs.length:=by omega
   have HF:=Hid.intro (findTo_none HA.out)
   clear HA
   go_wp2
   go_ret
   exact ⟨by rw [HF.out];rfl,HB.out⟩

end Go.Proofs.Ytggmjiddadjilac
namespace Go.Proofs.Ytggmjiddadjilac
open Go.RowKit

def dS:ByteArray:=ByteArray.empty
def StrsAt (w:World) (z:Nat) (v:Value) (ss:List ByteArray):Prop:=At w z v ss.length 1 (fun i b o=>w.cell? ⟨b,o,none⟩=some (.string (ss.getD i dS))∧(ss.getD i dS).size≤maxLen)
theorem StrsAt.since {w w':World} {z:Nat} {v:Value} {ss:List ByteArray} (h:StrsAt w z v ss) (k:Since z w w'):StrsAt w' z v ss :=
 At.mono h k.size (Nat.le_refl _) (fun _ _ _ _ hb hz he=>⟨(k.cell hz hb _).trans he.1,he.2⟩)
theorem StrsAt.kept {w w':World} {z:Nat} {v:Value} {ss:List ByteArray} (h:StrsAt w z v ss) (k:Below w.heap.size w w'):StrsAt w' z v ss:=h.since (.of_below k)
def lnTo (ss:List ByteArray) (k:Nat):Nat:=((ss.take k).map (fun x=>x.size)).sum
def totS (ss:List ByteArray):Nat:=ss.length+lnTo ss ss.length

/-- the first k texts, with one blank between any two -/
def joinTo (ss:List ByteArray):Nat→ByteArray
 | 0=>⟨#[]⟩
 | k+1=>if k=0 then ss.getD 0 dS else joinTo ss k ++ ⟨#[32]⟩ ++ ss.getD k dS

end Go.Proofs.Ytggmjiddadjilac
namespace Go.Proofs.Ytggmjiddadjilac
open Go.RowKit

set_option maxRecDepth 100000 in
set_option maxHeartbeats 1000000 in
theorem pwTexts_any (v1 v2:Value) (ss:List ByteArray) (w:World) {z1 z2:Nat} (h1:StrsAt w z1 v1 ss) (h2:StrsAt w z2 v2 ss) :
  Calls Try.prog 24 #[v1,v2] w fun e w'=>e=.returned (.bool true)∧∃ n,w'=w.drewN n:=by
 obtain ⟨a1,cap1,rfl,hlen⟩:=At.form h1
 obtain ⟨a2,cap2,rfl,_⟩:=At.form h2
 unfold maxLen at hlen
 have hne:((ss.length:Int) != (ss.length:Int))=false:=by simp
 have H1:=Hid.intro h1
 have H2:=Hid.intro h2
 clear h1 h2
 go_enter Try.func24,Try.ntmps24
 go_wp2_with fail
 go_loopw [5] (fun i W=>∃ k n:Nat,k≤ss.length∧i=.int .i64 k∧W=w.drewN n) (fun i _=>ss.length - (intOf i).toNat)
 case atStart=>exact ⟨0,0,Nat.zero_le _,rfl,rfl⟩
 case round =>
  obtain ⟨k,nd,hk,rfl,rfl⟩:=hrel
  by_cases hlt:k < ss.length
  ·obtain ⟨b1,off1,cap1',e1,hc11,hc12,hbl1,x0,_⟩:=At.get H1.out hlt
   simp only [Value.slice.injEq,true_and] at e1
   obtain ⟨rfl,rfl⟩:=e1
   obtain ⟨b2,off2,cap2',e2,hc21,hc22,hbl2,y0,_⟩:=At.get H2.out hlt
   simp only [Value.slice.injEq,true_and] at e2
   obtain ⟨rfl,rfl⟩:=e2
   unfold maxLen at hc12 hc22
   rw [Nat.mul_one] at x0 y0
   generalize ss.getD k dS=x at x0 y0
   go_wp2_with fail
   go_quiet (fail)
   go_wp2
   go_roundw
   case rel=>exact ⟨k+1,nd+nq,by omega,by go_num,rfl⟩
   case measure=>simp [intOf];omega
  ·go_wp2
   go_ret
   exact ⟨rfl,nd,rfl⟩
end Go.Proofs.Ytggmjiddadjilac
namespace Go.Proofs.Ytggmjiddadjilac
open Go.RowKit

theorem abcOk:txtOkB ⟨#[97,98,32,99]⟩=true:=by decide +kernel
theorem pwOk_any (w:World):Calls Try.prog 13 #[] w fun e w'=>e=.returned (.bool true)∧w'=w:=by
 go_enter Try.func13,Try.ntmps13
 go_wp2_with fail
 refine (implTxtOk _ _ (by unfold maxLen;decide)).mono ?_
 rw [abcOk]
 rintro e w1 ⟨rfl,rfl⟩
 go_wp2
 go_ret
 exact ⟨rfl,rfl⟩
end Go.Proofs.Ytggmjiddadjilac
