/-
  PROVED HERE: what the laws' own szTblCellS, szTblRow, szTblRowS, szTblColS and szTblTable answer; nothing that was in memory is turned. Also: cells and columns in an array, as lists.
-/
import Derived.Test.YtggmjiddadjilaoD1
import Derived.Laws.MakeOwn
import Derived.OwnWalk
import Derived.Lib.SmallJoins
import Derived.WalkLawsBesides
import Derived.WalkSpells
namespace Go.Proofs.Ytggmjiddadjilao
open Go.RowKit

set_option maxRecDepth 100000 in
set_option maxHeartbeats 1000000 in
theorem szTblCellS_any (v:Value) (cs:List C) (n:Int) (h0:0≤n) (hn:n≤1048576) (w:World) {z:Nat} (h:CellsAt w z v cs) :
  Calls Try.prog 102 #[v,.int .i64 n] w fun e w'=>e=.returned (.int .i64 (leftOf n (totC cs)))∧Below w.heap.size w w':=by
 obtain ⟨a,cap,rfl,hlen⟩:=At.form h
 unfold maxLen at hlen
 have HT:=Hid.intro (totC_eq cs)
 have H:=Hid.intro h
 clear h
 by_cases hl:(cs.length:Int)≤n
 ·have hl':¬ n - (cs.length:Int) < 0:=by omega
  go_enter Try.func102,Try.ntmps102
  go_wp2_with fail
  go_loopw [1,5] (fun l i W=>∃ k:Nat,k≤cs.length∧i=.int .i64 k∧l=.int .i64 (n - cs.length - szTo cs k)∧(szTo cs k:Int)≤n - cs.length∧Below w.heap.size w W) (fun _ i _=>cs.length - (intOf i).toNat)
  case atStart=>exact ⟨0,Nat.zero_le _,rfl,by simp [szTo],by simp [szTo];omega,Below.refl _ _⟩
  case round =>
   obtain ⟨k,hk,rfl,rfl,hle,hb⟩:=hrel
   have HB:=Hid.intro hb
   clear hb
   by_cases hlt:k < cs.length
   ·obtain ⟨b,off,cap',e',hc1,hc2,hbl,hx,hs⟩:=At.get (H.out.kept HB.out) hlt
    simp only [Value.slice.injEq,true_and] at e'
    obtain ⟨rfl,rfl⟩:=e'
    have HS:=Hid.intro (szTo_succ hlt)
    generalize cs.getD k dC=x at hx hs HS
    obtain ⟨x0,x1,x2,x3,x4,x5,x6,x7,x8,x9,x10⟩:=hx
    unfold maxLen at hc2
    go_wp2_with fail
    refine (szTblCell_any _ _ _ _ _ _ _ _ _ _ _ _ (by omega) (by omega) hs _).mono ?_
    by_cases hy:(x.s.size:Int)≤n - cs.length - szTo cs k
    ·rw [if_pos hy]
     rintro e w1 ⟨rfl,hb1⟩
     have HB1:=Hid.intro (k_trans HB.out hb1)
     have hg:¬ n - (cs.length:Int) - (szTo cs k:Int) - (x.s.size:Int) < 0:=by omega
     clear hb1
     go_wp2
     go_roundw
     case rel=>exact ⟨k+1,by omega,by go_num,by rw [HS.out];go_num,by rw [HS.out];omega,HB1.out⟩
     case measure=>simp [intOf];omega
    ·rw [if_neg hy]
     rintro e w1 ⟨rfl,hb1⟩
     have HB1:=Hid.intro (k_trans HB.out hb1)
     have HF:Hid (leftOf n (totC cs)=-1):=by
      have:=szTo_le cs (k+1)
      show leftOf n (totC cs)=-1
      rw [leftOf,HT.out,if_neg (by rw [HS.out] at this;omega)]
     clear hb1
     go_wp2
     go_ret
     exact ⟨by rw [HF.out];rfl,HB1.out⟩
   ·obtain rfl:k=cs.length:=by omega
    have HF:Hid (leftOf n (totC cs)=n - cs.length - szTo cs cs.length):=by
     show leftOf n (totC cs)=_
     rw [leftOf,HT.out,if_pos (by omega)];omega
    go_wp2
    go_ret
    exact ⟨by rw [HF.out];rfl,HB.out⟩
 ·have hl':n - (cs.length:Int) < 0:=by omega
  have HF:Hid (leftOf n (totC cs)=-1):=by
   show leftOf n (totC cs)=-1
   rw [leftOf,HT.out,if_neg (by omega)]
  go_enter Try.func102,Try.ntmps102
  go_wp2
  go_ret
  exact ⟨by rw [HF.out];rfl,Below.refl _ _⟩


set_option maxRecDepth 100000 in
set_option maxHeartbeats 1000000 in
theorem szTblRow_any (u:Value) (cs:List C) (q:Bool) (n:Int) (h0:0≤n) (hn:n≤1048576) (w:World) {z:Nat} (h:CellsAt w z u cs) :
  Calls Try.prog 76 #[.agg #[u,.bool q],.int .i64 n] w fun e w'=>e=.returned (.int .i64 (leftOf n (totC cs)))∧Below w.heap.size w w':=by
 obtain ⟨a,cap,rfl,hlen⟩:=At.form h
 have H:=Hid.intro (h.kept (k_alloc (Below.refl _ _) (.cells #[.slice a cs.length cap,.bool q] 117)))
 clear h
 by_cases hl:(totC cs:Int)≤n
 ·have HF:=Hid.intro (leftOf_pos hl)
  go_enter Try.func76,Try.ntmps76
  go_wp2_with fail
  refine (szTblCellS_any _ cs n h0 hn _ H.out).mono ?_
  rw [HF.out]
  rintro e w1 ⟨rfl,hb1⟩
  have hg:¬ n - (totC cs:Int) < 0:=by omega
  have HB1:=Hid.intro (k_trans (k_alloc (Below.refl _ _) _) hb1)
  clear hb1
  go_wp2
  go_ret
  exact ⟨by rw [HF.out];rfl,HB1.out⟩
 ·have HF:=Hid.intro (leftOf_neg hl)
  go_enter Try.func76,Try.ntmps76
  go_wp2_with fail
  refine (szTblCellS_any _ cs n h0 hn _ H.out).mono ?_
  rw [HF.out]
  rintro e w1 ⟨rfl,hb1⟩
  have HB1:=Hid.intro (k_trans (k_alloc (Below.refl _ _) _) hb1)
  clear hb1
  go_wp2
  go_ret
  exact ⟨by rw [HF.out];rfl,HB1.out⟩

set_option maxRecDepth 100000 in
set_option maxHeartbeats 1000000 in
theorem szTblRowS_any (v:Value) (rs:List R) (n:Int) (h0:0≤n) (hn:n≤1048576) (w:World) {z:Nat} (h:RowsAt w z v rs) :
  Calls Try.prog 44 #[v,.int .i64 n] w fun e w'=>e=.returned (.int .i64 (leftOf n (totR rs)))∧Below w.heap.size w w':=by
 obtain ⟨a,cap,rfl,hlen⟩:=At.form h
 unfold maxLen at hlen
 have HT:=Hid.intro (totR_eq rs)
 have H:=Hid.intro h
 clear h
 by_cases hl:(rs.length:Int)≤n
 ·have hl':¬ n - (rs.length:Int) < 0:=by omega
  go_enter Try.func44,Try.ntmps44
  go_wp2_with fail
  go_loopw [1,5] (fun l i W=>∃ k:Nat,k≤rs.length∧i=.int .i64 k∧l=.int .i64 (n - rs.length - rwTo rs k)∧(rwTo rs k:Int)≤n - rs.length∧Below w.heap.size w W) (fun _ i _=>rs.length - (intOf i).toNat)
  case atStart=>exact ⟨0,Nat.zero_le _,rfl,by simp [rwTo],by simp [rwTo];omega,Below.refl _ _⟩
  case round =>
   obtain ⟨k,hk,rfl,rfl,hle,hb⟩:=hrel
   have HB:=Hid.intro hb
   clear hb
   by_cases hlt:k < rs.length
   ·obtain ⟨b,off,cap',e',hc1,hc2,hbl,u,hx0,hx1,hx⟩:=At.get (H.out.kept HB.out) hlt
    simp only [Value.slice.injEq,true_and] at e'
    obtain ⟨rfl,rfl⟩:=e'
    have HS:=Hid.intro (rwTo_succ hlt)
    generalize rs.getD k dR=x at hx1 hx HS
    obtain ⟨ua,ucap,rfl,hul⟩:=At.form hx
    have HX:=Hid.intro hx
    unfold maxLen at hc2
    clear hx hul
    go_wp2_with fail
    refine (szTblRow_any _ x.cells x.whole _ (by omega) (by omega) _ HX.out).mono ?_
    by_cases hy:(totC x.cells:Int)≤n - rs.length - rwTo rs k
    ·rw [leftOf_pos hy]
     rintro e w1 ⟨rfl,hb1⟩
     have HB1:=Hid.intro (k_trans HB.out hb1)
     have hg:¬ n - (rs.length:Int) - (rwTo rs k:Int) - (totC x.cells:Int) < 0:=by omega
     clear hb1
     go_wp2
     go_roundw
     case rel=>exact ⟨k+1,by omega,by go_num,by rw [HS.out];go_num,by rw [HS.out];omega,HB1.out⟩
     case measure=>simp [intOf];omega
    ·rw [leftOf_neg hy]
     rintro e w1 ⟨rfl,hb1⟩
     have HB1:=Hid.intro (k_trans HB.out hb1)
     have HF:Hid (leftOf n (totR rs)=-1):=by
      have:=rwTo_le rs (k+1)
      show leftOf n (totR rs)=-1
      rw [leftOf,HT.out,if_neg (by rw [HS.out] at this;omega)]
     clear hb1
     go_wp2
     go_ret
     exact ⟨by rw [HF.out];rfl,HB1.out⟩
   ·obtain rfl:k=rs.length:=by omega
    have HF:Hid (leftOf n (totR rs)=n - rs.length - rwTo rs rs.length):=by
     show leftOf n (totR rs)=_
     rw [leftOf,HT.out,if_pos (by omega)];omega
    go_wp2
    go_ret
    exact ⟨by rw [HF.out];rfl,HB.out⟩
 ·have hl':n - (rs.length:Int) < 0:=by omega
  have HF:Hid (leftOf n (totR rs)=-1):=by
   show leftOf n (totR rs)=-1
   rw [leftOf,HT.out,if_neg (by omega)]
  go_enter Try.func44,Try.ntmps44
  go_wp2
  go_ret
  exact ⟨by rw [HF.out];rfl,Below.refl _ _⟩

set_option maxRecDepth 100000 in
theorem szTblColS_any (v:Value) (ps:List (Int × Int)) (n:Int) (h0:0≤n) (hn:n≤1048576) (w:World) {z:Nat} (h:ColsAt w z v ps) :
  Calls Try.prog 43 #[v,.int .i64 n] w fun e w'=>e=.returned (.int .i64 (leftOf n ps.length))∧Below w.heap.size w w':=by
 obtain ⟨a,cap,rfl,hlen⟩:=At.form h
 unfold maxLen at hlen
 clear h
 by_cases hl:(ps.length:Int)≤n
 ·have HF:=Hid.intro (leftOf_pos hl)
  have hl':¬ n - (ps.length:Int) < 0:=by omega
  go_enter Try.func43,Try.ntmps43
  go_wp2
  go_ret
  exact ⟨by rw [HF.out];rfl,Below.refl _ _⟩
 ·have HF:=Hid.intro (leftOf_neg hl)
  have hl':n - (ps.length:Int) < 0:=by omega
  go_enter Try.func43,Try.ntmps43
  go_wp2
  go_ret
  exact ⟨by rw [HF.out];rfl,Below.refl _ _⟩

set_option maxRecDepth 100000 in
set_option maxHeartbeats 1000000 in
theorem szTblTable_any (v:Value) (t:T) (w:World) {z:Nat} (h:TblAt w z v t) :
  Calls Try.prog 20 #[v,.int .i64 1048576] w fun e w'=>e=.returned (.int .i64 (leftOf 1048576 (totT t)))∧Below w.heap.size w w':=by
 obtain ⟨vc,vr,rfl,h1,h2⟩:=h
 obtain ⟨ac,capc,rfl,hlc⟩:=At.form h1
 obtain ⟨ar,capr,rfl,hlr⟩:=At.form h2
 have H1:=Hid.intro (h1.kept (k_alloc (Below.refl _ _) (.cells #[.slice ac t.cols.length capc,.int .i64 t.head,.int .i64 t.foot,.slice ar t.rows.length capr,.int .i64 t.gap] 46)))
 have H2:=Hid.intro (h2.kept (k_alloc (Below.refl _ _) (.cells #[.slice ac t.cols.length capc,.int .i64 t.head,.int .i64 t.foot,.slice ar t.rows.length capr,.int .i64 t.gap] 46)))
 have HT:Hid (totT t=t.cols.length+totR t.rows):=Hid.intro rfl
 clear h1 h2 hlc hlr
 by_cases hc:(t.cols.length:Int)≤1048576
 ·have HF:=Hid.intro (leftOf_pos hc)
  have hc':¬ (1048576:Int) - (t.cols.length:Int) < 0:=by omega
  go_enter Try.func20,Try.ntmps20
  go_wp2_with fail
  refine (szTblColS_any _ t.cols _ (by omega) (by omega) _ H1.out).mono ?_
  rw [HF.out]
  rintro e w1 ⟨rfl,hb1⟩
  obtain ⟨hc1,hf1⟩:=bcell hb1
  have hz1:w.heap.size < w1.heap.size:=by have:=hb1.size;simp at this;omega
  have H3:=Hid.intro (H2.out.kept hb1)
  have HB1:=Hid.intro (k_trans (k_alloc (Below.refl _ _) _) hb1)
  clear hb1
  go_wp2_with fail
  refine (szTblRowS_any _ t.rows _ (by omega) (by omega) _ H3.out).mono ?_
  by_cases hr:(totR t.rows:Int)≤1048576 - t.cols.length
  ·rw [leftOf_pos hr]
   rintro e w2 ⟨rfl,hb2⟩
   have HB2:=Hid.intro (k_trans HB1.out hb2)
   have hr':¬ (1048576:Int) - (t.cols.length:Int) - (totR t.rows:Int) < 0:=by omega
   have HG:Hid (leftOf 1048576 (totT t)=1048576 - t.cols.length - totR t.rows):=by
    show leftOf 1048576 (totT t)=_
    rw [leftOf,HT.out,if_pos (by omega)];omega
   clear hb2
   go_wp2
   go_ret
   exact ⟨by rw [HG.out];rfl,HB2.out⟩
  ·rw [leftOf_neg hr]
   rintro e w2 ⟨rfl,hb2⟩
   have HB2:=Hid.intro (k_trans HB1.out hb2)
   have HG:Hid (leftOf 1048576 (totT t)=-1):=by
    show leftOf 1048576 (totT t)=_
    rw [leftOf,HT.out,if_neg (by omega)]
   clear hb2
   go_wp2
   go_ret
   exact ⟨by rw [HG.out];rfl,HB2.out⟩
 ·have HF:=Hid.intro (leftOf_neg hc)
  have HG:Hid (leftOf 1048576 (totT t)=-1):=by
   show leftOf 1048576 (totT t)=_
   rw [leftOf,HT.out,if_neg (by omega)]
  go_enter Try.func20,Try.ntmps20
  go_wp2_with fail
  refine (szTblColS_any _ t.cols _ (by omega) (by omega) _ H1.out).mono ?_
  rw [HF.out]
  rintro e w1 ⟨rfl,hb1⟩
  have HB1:=Hid.intro (k_trans (k_alloc (Below.refl _ _) _) hb1)
  clear hb1
  go_wp2
  go_ret
  exact ⟨by rw [HG.out];rfl,HB1.out⟩
end Go.Proofs.Ytggmjiddadjilao
namespace Go.Proofs.Ytggmjiddadjilao
open Go.RowKit

/-- the eleven cells of a cell in an array -/
def CellArr (arr:Array Value) (o:Nat) (x:C):Prop :=
 arr[o]?=some (.string x.s)∧arr[o+1]?=some (.int .i64 x.c)∧arr[o+2]?=some (.int .i64 x.r)∧arr[o+3]?=some (.int .i64 x.a1)∧arr[o+4]?=some (.int .i64 x.b1)∧arr[o+5]?=some (.int .i64 x.a2) ∧
 arr[o+6]?=some (.int .i64 x.b2)∧arr[o+7]?=some (.int .i64 x.a3)∧arr[o+8]?=some (.int .i64 x.b3)∧arr[o+9]?=some (.int .i64 x.a4)∧arr[o+10]?=some (.int .i64 x.b4)
def put11 (arr:Array Value) (o:Nat) (x:C):Array Value :=
 ((((((((((arr.setIfInBounds o (.string x.s)).setIfInBounds (o+1) (.int .i64 x.c)).setIfInBounds (o+2) (.int .i64 x.r)).setIfInBounds (o+3) (.int .i64 x.a1)).setIfInBounds (o+4) (.int .i64 x.b1)).setIfInBounds (o+5) (.int .i64 x.a2)).setIfInBounds (o+6) (.int .i64 x.b2)).setIfInBounds (o+7) (.int .i64 x.a3)).setIfInBounds (o+8) (.int .i64 x.b3)).setIfInBounds (o+9) (.int .i64 x.a4)).setIfInBounds (o+10) (.int .i64 x.b4)
theorem put11_size (arr:Array Value) (o:Nat) (x:C):(put11 arr o x).size=arr.size:=by simp [put11]
theorem put11_before (arr:Array Value) (o:Nat) (x:C) (p:Nat) (h:p < o):(put11 arr o x)[p]?=arr[p]?:=by
 unfold put11
 iterate 11 rw [Array.getElem?_setIfInBounds_ne (by omega)]
theorem put11_at (arr:Array Value) (o:Nat) (x:C) (h:o+10 < arr.size):CellArr (put11 arr o x) o x:=by
 have ne:∀ (A:Array Value) (i j:Nat) (v:Value),i ≠ j→(A.setIfInBounds i v)[j]?=A[j]?:=fun A i j v hij=>Array.getElem?_setIfInBounds_ne hij
 have eq:∀ (A:Array Value) (i:Nat) (v:Value),i < A.size→(A.setIfInBounds i v)[i]?=some v:=fun A i v hi=>by simp [hi]
 unfold CellArr put11
 refine ⟨?_,?_,?_,?_,?_,?_,?_,?_,?_,?_,?_⟩
 ·iterate 10 rw [ne _ _ _ _ (by omega)]
  exact eq _ _ _ (by first | omega | (simp;omega))
 ·iterate 9 rw [ne _ _ _ _ (by omega)]
  exact eq _ _ _ (by first | omega | (simp;omega))
 ·iterate 8 rw [ne _ _ _ _ (by omega)]
  exact eq _ _ _ (by first | omega | (simp;omega))
 ·iterate 7 rw [ne _ _ _ _ (by omega)]
  exact eq _ _ _ (by first | omega | (simp;omega))
 ·iterate 6 rw [ne _ _ _ _ (by omega)]
  exact eq _ _ _ (by first | omega | (simp;omega))
 ·iterate 5 rw [ne _ _ _ _ (by omega)]
  exact eq _ _ _ (by first | omega | (simp;omega))
 ·iterate 4 rw [ne _ _ _ _ (by omega)]
  exact eq _ _ _ (by first | omega | (simp;omega))
 ·iterate 3 rw [ne _ _ _ _ (by omega)]
  exact eq _ _ _ (by first | omega | (simp;omega))
 ·iterate 2 rw [ne _ _ _ _ (by omega)]
  exact eq _ _ _ (by first | omega | (simp;omega))
 ·iterate 1 rw [ne _ _ _ _ (by omega)]
  exact eq _ _ _ (by first | omega | (simp;omega))
 ·exact eq _ _ _ (by first | omega | (simp;omega))
theorem CellArr.of_same {a b:Array Value} {o:Nat} {x:C} (h:CellArr a o x) (e:∀ p,o≤p→p≤o+10→b[p]?=a[p]?):CellArr b o x:=by
 unfold CellArr at h ⊢
 rw [e o (by omega) (by omega),e (o+1) (by omega) (by omega),e (o+2) (by omega) (by omega),e (o+3) (by omega) (by omega),e (o+4) (by omega) (by omega),e (o+5) (by omega) (by omega),e (o+6) (by omega) (by omega),
  e (o+7) (by omega) (by omega),e (o+8) (by omega) (by omega),e (o+9) (by omega) (by omega),e (o+10) (by omega) (by omega)]
 exact h
theorem put11_next {arr:Array Value} {cs:List C} {k:Nat} (hs:arr.size=cs.length * 11) (hk:k < cs.length) (h:∀ i,i < k→CellArr arr (i * 11) (cs.getD i dC)) :
  ∀ i,i < k+1→CellArr (put11 arr (k * 11) (cs.getD k dC)) (i * 11) (cs.getD i dC):=by
 intro i hi
 rcases Nat.lt_or_eq_of_le (Nat.lt_succ_iff.1 hi) with h1 | rfl
 ·exact (h i h1).of_same (fun p hp1 hp2=>put11_before _ _ _ _ (by omega))
 ·exact put11_at _ _ _ (by omega)
theorem CellIs.of_arr {w:World} {g o:Nat} {arr:Array Value} {t:TypeId} {x:C} (h:w.heap[g]?=some (.cells arr t)) (hx:CellArr arr o x):CellIs w g o x:=by
 unfold CellIs
 simp only [cellB h]
 exact hx

/-- the new array of so many cells -/
def newC (n:Nat):Array Value:=madeCells (Value.agg #[.string ⟨#[]⟩,.int .i64 0,.int .i64 0,.int .i64 0,.int .i64 0,.int .i64 0,.int .i64 0,.int .i64 0,.int .i64 0,.int .i64 0,.int .i64 0]).cells (n * 11)
theorem newC_size (n:Nat):(newC n).size=n * 11:=size_madeCells _ _
theorem infoC:(Try.prog.info? 62).map (fun i=>(i.zero,i.size,i.bytes))=some (some (Value.agg #[.string ⟨#[]⟩,.int .i64 0,.int .i64 0,.int .i64 0,.int .i64 0,.int .i64 0,.int .i64 0,.int .i64 0,.int .i64 0,.int .i64 0,.int .i64 0]),11,96):=by kernel_rfl
theorem makeC (n:Nat) (hn:n≤1048576) (u:World):(Instr.makeSlice 86 (.int .i64 (n:Int)) (.int .i64 (n:Int))).run Try.prog u=.ok (.slice (some ⟨u.heap.size,0,none⟩) n n) (u.alloc (.cells (newC n) 62)):=by
 obtain ⟨i0,hi,hz0,hz1,hz2⟩:=info_parts infoC
 have h:=run_make (P:=Try.prog) u 86 62 i0 _ Try.underlying86 hi hz0 .i64 .i64 (n:Int) (n:Int) (by omega) (Int.le_refl _) (by rw [hz2];omega) (by omega)
 rw [hz1,Int.toNat_natCast] at h
 exact h

def newR (n:Nat):Array Value:=madeCells (Value.agg #[.slice none 0 0,.bool false]).cells (n * 2)
theorem newR_size (n:Nat):(newR n).size=n * 2:=size_madeCells _ _
theorem infoR:(Try.prog.info? 88).map (fun i=>(i.zero,i.size,i.bytes))=some (some (Value.agg #[.slice none 0 0,.bool false]),2,32):=by kernel_rfl
theorem makeR (n:Nat) (hn:n≤1048576) (u:World):(Instr.makeSlice 54 (.int .i64 (n:Int)) (.int .i64 (n:Int))).run Try.prog u=.ok (.slice (some ⟨u.heap.size,0,none⟩) n n) (u.alloc (.cells (newR n) 88)):=by
 obtain ⟨i0,hi,hz0,hz1,hz2⟩:=info_parts infoR
 have h:=run_make (P:=Try.prog) u 54 88 i0 _ Try.underlying54 hi hz0 .i64 .i64 (n:Int) (n:Int) (by omega) (Int.le_refl _) (by rw [hz2];omega) (by omega)
 rw [hz1,Int.toNat_natCast] at h
 exact h
/-- rows in an array, the first k of them -/
def RowArr (w:World) (z:Nat) (arr:Array Value) (rs:List R) (k:Nat):Prop :=
 ∀ i,i < k→∃ u,arr[i * 2]?=some u∧arr[i * 2+1]?=some (.bool (rs.getD i dR).whole)∧CellsAt w z u (rs.getD i dR).cells
theorem RowArr.next {w w':World} {z:Nat} {arr:Array Value} {rs:List R} {k:Nat} (h:RowArr w z arr rs k) (hs:arr.size=rs.length * 2) (hk:k < rs.length) (hw:Since z w w') {u:Value} (hu:CellsAt w' z u (rs.getD k dR).cells) :
  RowArr w' z ((arr.setIfInBounds (k * 2) u).setIfInBounds (k * 2+1) (.bool (rs.getD k dR).whole)) rs (k+1):=by
 obtain ⟨h1,h2,h3⟩:=two_next hs hk u (.bool (rs.getD k dR).whole)
 intro i hi
 rcases Nat.lt_or_eq_of_le (Nat.lt_succ_iff.1 hi) with hlt | rfl
 ·obtain ⟨v,e1,e2,e3⟩:=h i hlt
  exact ⟨v,(h1 _ (by omega)).trans e1,(h1 _ (by omega)).trans e2,e3.since hw⟩
 ·exact ⟨u,h2,h3,hu⟩

def newK (n:Nat):Array Value:=madeCells (Value.agg #[.int .i64 0,.int .i64 0]).cells (n * 2)
theorem newK_size (n:Nat):(newK n).size=n * 2:=size_madeCells _ _
theorem infoK:(Try.prog.info? 120).map (fun i=>(i.zero,i.size,i.bytes))=some (some (Value.agg #[.int .i64 0,.int .i64 0]),2,16):=by kernel_rfl
theorem makeK (n:Nat) (hn:n≤1048576) (u:World):(Instr.makeSlice 53 (.int .i64 (n:Int)) (.int .i64 (n:Int))).run Try.prog u=.ok (.slice (some ⟨u.heap.size,0,none⟩) n n) (u.alloc (.cells (newK n) 120)):=by
 obtain ⟨i0,hi,hz0,hz1,hz2⟩:=info_parts infoK
 have h:=run_make (P:=Try.prog) u 53 120 i0 _ Try.underlying53 hi hz0 .i64 .i64 (n:Int) (n:Int) (by omega) (Int.le_refl _) (by rw [hz2];omega) (by omega)
 rw [hz1,Int.toNat_natCast] at h
 exact h
def ColArr (arr:Array Value) (ps:List (Int × Int)) (k:Nat):Prop:=∀ i,i < k→arr[i * 2]?=some (.int .i64 (ps.getD i (0,0)).1)∧arr[i * 2+1]?=some (.int .i64 (ps.getD i (0,0)).2)
theorem ColArr.next {arr:Array Value} {ps:List (Int × Int)} {k:Nat} (h:ColArr arr ps k) (hs:arr.size=ps.length * 2) (hk:k < ps.length) :
  ColArr ((arr.setIfInBounds (k * 2) (.int .i64 (ps.getD k (0,0)).1)).setIfInBounds (k * 2+1) (.int .i64 (ps.getD k (0,0)).2)) ps (k+1):=by
 obtain ⟨h1,h2,h3⟩:=two_next hs hk (.int .i64 (ps.getD k (0,0)).1) (.int .i64 (ps.getD k (0,0)).2)
 intro i hi
 rcases Nat.lt_or_eq_of_le (Nat.lt_succ_iff.1 hi) with hlt | rfl
 ·exact ⟨(h1 _ (by omega)).trans (h i hlt).1,(h1 _ (by omega)).trans (h i hlt).2⟩
 ·exact ⟨h2,h3⟩
end Go.Proofs.Ytggmjiddadjilao
