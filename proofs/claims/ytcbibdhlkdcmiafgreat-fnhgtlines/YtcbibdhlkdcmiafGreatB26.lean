/-
  PROVED HERE: columns made wide enough for one cell, as lists: what it lacks is shared among its columns by what they have. Also: how many cells rows have together. Also: what the program's sumOf answers of any list of numbers in memory; nothing in memory is turned. Also: what the program's acrossAll answers of any list of numbers in memory; nothing in memory is turned. Also: small facts on places of a grid, for the other texts of this claim. Also: what the program's reaches answers at every argument; nothing in memory is turned. Also: what the program's acrossAll and WidCell answer of any list of numbers in memory and any cell; nothing that was in memory is turned. Also: what is said of a column, as numbers. Also: how wide a text would be. Also: what is shared among some, by their weights, is what is shared among all, if all others weigh nothing. Also: what each gets up to what it wants, and what is left, as lists. Also: what is shared up to what each wants, and what is shared alike, among some columns: the same as among all, if all others want nothing.
-/
import Derived.Test.YtcbibdhlkdcmiafGreatB25
import Derived.Test.YtcbibdhlkdcmiafGreatB12
import Derived.Test.YtcbibdhlkdcmiafGreatB13
import Derived.Test.YtcbibdhlkdcmiafGreatB14
import Derived.Test.YtcbibdhlkdcmiafGreatB2
import Derived.WalkLawsBesides
import Derived.WalkSpells
import Derived.Deep.RegionWith
import Derived.Deep.QuietTactic
import Derived.BigQuiet
import Derived.Laws.AppendOwn
namespace Go.Proofs.YtcbibdhlkdcmiafGreat
open Go.RowKit

/-- the columns of a cell -/
def subL (l:List Int) (c m:Nat):List Int:=(l.drop c).take m
theorem subL_len {l:List Int} {c m:Nat} (h:c+m≤l.length):(subL l c m).length=m:=by unfold subL;rw [List.length_take,List.length_drop];omega
theorem subL_get {l:List Int} {c m k:Nat} (_:c+m≤l.length) (hk:k < m):(subL l c m).getD k 0=l.getD (c+k) 0:=by
 unfold subL
 simp [List.getD,List.getElem?_take_of_lt hk,List.getElem?_drop]
theorem subL_mem {l:List Int} {c m:Nat} {x:Int} (h:x ∈ subL l c m):x ∈ l:=List.mem_of_mem_drop (List.mem_of_mem_take h)
/-- the first k columns of a cell get what is theirs -/
def addTo (l:List Int) (c:Nat) (more:List Int):Nat→List Int
 | 0=>l
 | k+1=>(addTo l c more k).set (c+k) (l.getD (c+k) 0+more.getD k 0)
theorem addTo_len (l:List Int) (c:Nat) (more:List Int):∀ k,(addTo l c more k).length=l.length
 | 0=>rfl
 | k+1=>by rw [addTo,List.length_set,addTo_len l c more k]
theorem addTo_out (l:List Int) (c:Nat) (more:List Int) {i:Nat}:∀ k,(∀ j,j < k→c+j ≠ i)→(addTo l c more k).getD i 0=l.getD i 0
 | 0,_=>rfl
 | k+1,h=>by
  rw [addTo]
  simp only [List.getD,List.getElem?_set_ne (h k (by omega))]
  exact addTo_out l c more k (fun j hj=>h j (by omega))
theorem addTo_in (l:List Int) (c:Nat) (more:List Int) {j:Nat}:∀ k,j < k→c+k≤l.length→(addTo l c more k).getD (c+j) 0=l.getD (c+j) 0+more.getD j 0
 | k+1,h,hl=>by
  rw [addTo]
  by_cases e:j=k
  ·subst e
   have:c+j < (addTo l c more j).length:=by rw [addTo_len];omega
   simp [List.getD,this]
  ·have:=addTo_in l c more (j:=j) k (by omega) (by omega)
   simp only [List.getD,List.getElem?_set_ne (show c+k ≠ c+j by omega)]
   exact this
/-- what a cell lacks -/
def lackV (l:List Int) (c m:Nat) (gap need:Int):Int:=need - ((subL l c m).sum+gap * ((m:Int) - 1))
def wideL (l:List Int) (c m:Nat) (gap need:Int):List Int:=if lackV l c m gap need≤0 then l else addTo l c (shareL (lackV l c m gap need) (subL l c m)) m
theorem wideL_len (l:List Int) (c m:Nat) (gap need:Int):(wideL l c m gap need).length=l.length:=by unfold wideL;split;rfl;exact addTo_len _ _ _ _
/-- numbers within bounds -/
def UpB (l:List Int) (B:Int):Prop:=∀ i,i < l.length→0≤l.getD i 0∧l.getD i 0≤B
theorem UpB.mem {l:List Int} {B:Int} (h:UpB l B) {x:Int} (hx:x ∈ l):0≤x∧x≤B:=by
 obtain ⟨i,hi,rfl⟩:=List.mem_iff_getElem.1 hx
 have:=h i hi
 simpa [List.getD,hi] using this
theorem sum_upB:∀ {l:List Int} {B:Int},(∀ x ∈ l,0≤x∧x≤B)→0≤l.sum∧l.sum≤l.length * B
 | [],_,_=>by simp
 | a :: l,B,h=>by
  have h1:=h a (by simp)
  have h2:=sum_upB (l:=l) (B:=B) (fun x hx=>h x (by simp [hx]))
  rw [List.sum_cons,List.length_cons,show ((l.length+1:Nat):Int) * B=l.length * B+B by rw [show ((l.length+1:Nat):Int)=(l.length:Int)+1 by omega,Int.add_mul,Int.one_mul]]
  omega
theorem mem_le_sum:∀ {l:List Int} {x:Int},(∀ y ∈ l,0≤y)→x ∈ l→x≤l.sum
 | a :: l,x,h,hx=>by
  have h1:=h a (by simp)
  rw [List.sum_cons]
  rcases List.mem_cons.1 hx with rfl | hx
  ·have:0≤l.sum:=by
    clear hx h1
    induction l with
    | nil=>simp
    | cons b l ih =>
     have hb:=h b (by simp)
     have:=ih (fun y hy=>h y (by rcases List.mem_cons.1 hy with rfl | hy;exact List.mem_cons_self;exact List.mem_cons_of_mem _ (List.mem_cons_of_mem _ hy)))
     rw [List.sum_cons];omega
   omega
  ·have:=mem_le_sum (fun y hy=>h y (List.mem_cons_of_mem _ hy)) hx
   omega
theorem lack_ok {l:List Int} {c m:Nat} {gap need:Int} (hb:UpB l 50000) (hc:c+m≤l.length) (hm:1≤m∧m≤4) (hg:0≤gap∧gap≤3) (hn:need≤30) (hl:0 < lackV l c m gap need) :
  shrOkB (lackV l c m gap need) (subL l c m)=true∧lackV l c m gap need≤30:=by
 have hs:=(sum_upB (fun x (hx:x ∈ subL l c m)=>hb.mem (subL_mem hx))).1
 have hgm:0≤gap * ((m:Int) - 1):=Int.mul_nonneg hg.1 (by omega)
 have h30:lackV l c m gap need≤30:=by unfold lackV;omega
 refine ⟨?_,h30⟩
 simp only [shrOkB,wtB,Bool.and_eq_true,decide_eq_true_eq,List.all_eq_true]
 refine ⟨⟨by omega,by rw [subL_len hc];omega⟩,fun x hx=>?_⟩
 have:=hb.mem (subL_mem hx)
 omega
theorem wideL_upB {l:List Int} {B:Int} {c m:Nat} {gap need:Int} (hb:UpB l B) (hB:B+30≤50000) (hc:c+m≤l.length) (hm:1≤m∧m≤4) (hg:0≤gap∧gap≤3) (hn:need≤30):UpB (wideL l c m gap need) (B+30):=by
 intro i hi
 rw [wideL_len] at hi
 have hbi:=hb i hi
 unfold wideL
 split
 ·omega
 ·rename_i hl
  obtain ⟨hok,h30⟩:=lack_ok (fun j hj=>⟨(hb j hj).1,by have:=(hb j hj).2;omega⟩) hc hm hg hn (by omega:0 < lackV l c m gap need)
  have hsl:=shareL_len hok
  rw [subL_len hc] at hsl
  by_cases hin:c≤i∧i < c+m
  ·obtain ⟨j,rfl⟩:∃ j,i=c+j:=⟨i - c,by omega⟩
   rw [addTo_in l c _ m (by omega) (by omega)]
   have h1:=shareL_small (t:=lackV l c m gap need) (l:=subL l c m) j (by omega)
   have h2:(shareL (lackV l c m gap need) (subL l c m)).getD j 0≤30:=by
    have hsum:=share_sum hok (by rw [subL_len hc];omega)
    have hall:∀ x ∈ shareL (lackV l c m gap need) (subL l c m),0≤x:=fun x hx=>by
     obtain ⟨k,hk,rfl⟩:=List.mem_iff_getElem.1 hx
     have:=(shareL_small (t:=lackV l c m gap need) (l:=subL l c m) k hk).1
     simpa [List.getD,hk] using this
    have hle:(shareL (lackV l c m gap need) (subL l c m)).getD j 0≤(shareL (lackV l c m gap need) (subL l c m)).sum:=by
     have hmem:(shareL (lackV l c m gap need) (subL l c m)).getD j 0 ∈ shareL (lackV l c m gap need) (subL l c m):=by
      have e:(shareL (lackV l c m gap need) (subL l c m)).getD j 0=(shareL (lackV l c m gap need) (subL l c m))[j]'(by omega):=by simp [List.getD,show j < (shareL (lackV l c m gap need) (subL l c m)).length by omega]
      rw [e];exact List.getElem_mem _
     exact mem_le_sum hall hmem
    omega
   omega
  ·rw [addTo_out l c _ m (fun j hj e=>hin ⟨by omega,by omega⟩)]
   omega
end Go.Proofs.YtcbibdhlkdcmiafGreat
namespace Go.Proofs.YtcbibdhlkdcmiafGreat
open Go.RowKit

def cnTo (rs:List R) (k:Nat):Nat:=((rs.take k).map (fun x=>x.cells.length)).sum
end Go.Proofs.YtcbibdhlkdcmiafGreat
namespace Go.Proofs.YtcbibdhlkdcmiafGreat
open Go.RowKit

set_option maxRecDepth 100000 in
set_option maxHeartbeats 1000000 in
theorem implsumOfW (v:Value) (l:List Int) (w:World) (h:IntsAt w v l) :
  Calls Tryz.prog 71 #[v] w fun e w'=>e=.returned (.int .i64 (wrap64 l.sum))∧w'=w:=by
 obtain ⟨a,cap,rfl,hlen⟩:=h.form
 have H:=Hid.intro h
 clear h
 go_enter Tryz.func71,Tryz.ntmps71
 go_wp2_with fail
 go_loop [3,8] (fun s i=>∃ k:Nat,k≤l.length∧i=.int .i64 k∧s=.int .i64 (wrap64 (sumTo l k))) (fun _ i=>l.length - (intOf i).toNat)
 case atStart=>exact ⟨0,Nat.zero_le _,rfl,by simp [sumTo,W_eq]⟩
 case round =>
  obtain ⟨k,hk,rfl,rfl⟩:=hrel
  by_cases hlt:k < l.length
  ·obtain ⟨b,off,cap',e',hc1,hc2,hbl,hx⟩:=H.out.get hlt
   simp only [Value.slice.injEq,true_and] at e'
   obtain ⟨rfl,rfl⟩:=e'
   have HS:Hid (wrap64 (wrap64 (sumTo l k)+l.getD k 0)=wrap64 (sumTo l (k+1))):=by rw [Hid,sumTo_succ hlt,W_addl]
   generalize l.getD k 0=x at hx HS
   generalize wrap64 (sumTo l k)=s at HS ⊢
   unfold maxLen at hc2
   go_wp2
   go_round
   case rel=>exact ⟨k+1,by omega,by go_num,by rw [← HS.out]⟩
   case measure=>simp [intOf];omega
  ·obtain rfl:k=l.length:=by omega
   have HE:=Hid.intro (sumTo_all l)
   go_wp2
   go_ret
   exact ⟨by rw [← HE.out];rfl,rfl⟩
end Go.Proofs.YtcbibdhlkdcmiafGreat
namespace Go.Proofs.YtcbibdhlkdcmiafGreat
open Go.RowKit

set_option maxRecDepth 100000 in
set_option maxHeartbeats 1000000 in
theorem implacrossAll (v:Value) (l:List Int) (gap:Int) (w:World) (h:IntsAt w v l) :
  Calls Tryz.prog 36 #[v,.int .i64 gap] w fun e w'=>e=.returned (.int .i64 (acrV l gap))∧w'=w:=by
 obtain ⟨a,cap,rfl,hlen⟩:=h.form
 have H:=Hid.intro h
 clear h
 by_cases h0:l.length=0
 ·have HV:=Hid.intro (acrV_nil h0 gap)
  rw [h0] at H ⊢
  clear h0
  go_enter Tryz.func36,Tryz.ntmps36
  go_wp2
  go_ret
  exact ⟨by rw [HV.out];rfl,rfl⟩
 ·have HV:Hid (acrV l gap=wrap64 (wrap64 l.sum+wrap64 (gap * ((l.length:Int) - 1)))):=by rw [Hid,acrV_cons h0,W_addl,W_addr]
  have h0':((l.length:Int) == 0)=false:=beq_eq_false_iff_ne.2 (by omega)
  have KS:=Hid.intro (implsumOfW _ l w H.out)
  go_enter Tryz.func36,Tryz.ntmps36
  go_wp2_with fail
  refine KS.out.mono ?_
  rintro e w1 ⟨rfl,rfl⟩
  go_wp2
  go_ret
  exact ⟨by rw [HV.out];rfl,rfl⟩
end Go.Proofs.YtcbibdhlkdcmiafGreat
namespace Go.Proofs.YtcbibdhlkdcmiafGreat
open Go.RowKit

theorem ret_boolG {a b:Bool} (h:a=b):Ending.returned (.bool a)=.returned (.bool b):=by rw [h]
def isIn (row ins:Int) (x:GC):Bool:=(x.row == row) && (x.ins == ins)
/-- whether a place is one of so many from a first one on -/
def amongB (x first many:Int):Bool:=decide (first≤x) && decide (0 < many) && decide (x - first < many)
def holdsB (row col:Int) (x:GC):Bool:=amongB row x.row x.rows && amongB col x.col x.cols

theorem wrap_sub {x f:Int} (hx:-9223372036854775808≤x∧x≤9223372036854775807) (hf:-9223372036854775808≤f∧f≤9223372036854775807) (h:f≤x):IntKind.u64.wrap (IntKind.u64.wrap x - IntKind.u64.wrap f)=x - f:=by
 simp [IntKind.wrap,IntKind.bits,IntKind.signed]
 omega

end Go.Proofs.YtcbibdhlkdcmiafGreat
namespace Go.Proofs.YtcbibdhlkdcmiafGreat
open Go.RowKit

theorem reaches_any (x f m:Int) (hx:I64 x) (hf:I64 f) (hm:I64 m) (w:World) :
  Calls Tryz.prog 66 #[.int .i64 f,.int .i64 m,.int .i64 x] w fun e w'=>e=.returned (.bool (amongB x f m))∧w'=w:=by
 unfold I64 at hx hf hm
 by_cases h1:f≤x
 ·by_cases h2:0 < m
  ·have e:amongB x f m=decide (x - f < m):=by simp [amongB];omega
   rw [e]
   go_enter Tryz.func66,Tryz.ntmps66
   go_wp2
   go_ret
   exact ⟨ret_boolG (by rw [wrap_sub hx hf h1]),rfl⟩
  ·have e:amongB x f m=false:=by simp [amongB];omega
   rw [e]
   go_enter Tryz.func66,Tryz.ntmps66
   go_wp2
   go_ret
   exact ⟨rfl,rfl⟩
 ·have e:amongB x f m=false:=by simp [amongB];omega
  rw [e]
  go_enter Tryz.func66,Tryz.ntmps66
  go_wp2
  go_ret
  exact ⟨rfl,rfl⟩
end Go.Proofs.YtcbibdhlkdcmiafGreat
namespace Go.Proofs.YtcbibdhlkdcmiafGreat
open Go.RowKit

/-- whether a column is of a cell -/
def inCell (x:GC) (k:Nat):Bool:=amongB (k:Int) x.col x.cols
def cellV (l:List Int) (gap:Int) (x:GC):Int:=acrV (ownL l (inCell x) l.length) gap

theorem infoIc:(Tryz.prog.info? 3).map (fun i=>(i.zero,i.size,i.bytes))=some (some (Value.int .i64 0),1,8):=by kernel_rfl
/-- what an append of one number leaves -/
theorem app_keeps {w w3 w4:World} {B n:Nat} {xs:List Value} {x:Int} {o:Value} (hB:w.heap.size≤B) (hO:w3.ownsRow B 3 1 o n xs) (K:Below w.heap.size w w3)
  (hg:(w3.alloc (.cells #[.int .i64 x] 3)).grownBy w4 o.ownBlock):Below w.heap.size w w4∧∀ g,g < B→g < w3.heap.size→w4.heap[g]?=w3.heap[g]?:=by
 have hA:=k_alloc K (.cells #[.int .i64 x] 3)
 refine ⟨⟨hg.os.trans hA.os,hg.tape.trans hA.tape,hg.output.trans hA.output,Nat.le_trans hA.size hg.size,fun k hk=>(hg.block k (Nat.lt_of_lt_of_le hk hA.size) (fun hb=>?_)).trans (hA.block k hk)⟩,fun k hk hl=>(hg.block k (by simp;omega) (fun hb=>?_)).trans (Below.heap_alloc _ _ _ hl)⟩
 ·have:=(hO.lt k hb.symm).1
  omega
 ·have:=(hO.lt k hb.symm).1
  omega
theorem ownL_yes {l:List Int} {p:Nat→Bool} {k:Nat} (h:p k=true):ownL l p (k+1)=ownL l p k ++ [l.getD k 0]:=by rw [ownL,if_pos h]
theorem ownL_no {l:List Int} {p:Nat→Bool} {k:Nat} (h:p k=false):ownL l p (k+1)=ownL l p k:=by rw [ownL,if_neg (by rw [h];simp)]

set_option maxRecDepth 100000 in
set_option maxHeartbeats 1000000 in
theorem implWidCell (v:Value) (l:List Int) (hl:l.length≤1048576) (gap:Int) (x:GC) (hx:GOk x) (w:World) (h:IntsAt w v l) :
  Calls Tryz.prog 32 #[v,.int .i64 gap,.agg #[.int .i64 x.row,.int .i64 x.col,.int .i64 x.rows,.int .i64 x.cols,.int .i64 x.ins]] w fun e w'=>e=.returned (.int .i64 (cellV l gap x))∧Below w.heap.size w w':=by
 obtain ⟨i0,hi,hz0,hz1,hz2⟩:=info_parts infoIc
 obtain ⟨a,cap,rfl,hlen⟩:=h.form
 obtain ⟨_,b1,_,b3,_⟩:=hx
 have K0:=k_alloc (Below.refl w.heap.size w) (.cells #[.int .i64 x.row,.int .i64 x.col,.int .i64 x.rows,.int .i64 x.cols,.int .i64 x.ins] 50)
 have X0:=newestB w (.cells #[.int .i64 x.row,.int .i64 x.col,.int .i64 x.rows,.int .i64 x.cols,.int .i64 x.ins] 50)
 have H:=Hid.intro h
 have HR:=Hid.intro (fun (k:Nat) (hk:k≤1048576)=>reaches_any (k:Int) x.col x.cols (by unfold I64;omega) b1 b3)
 clear h b1 b3
 go_enter Tryz.func32,Tryz.ntmps32
 go_wp2_with fail
 go_loopw [7,12] (fun o i W=>∃ k:Nat,i=.int .i64 k∧k≤l.length∧Hid (W.ownsRow (w.heap.size+1) 3 1 o (ownL l (inCell x) k).length ((ownL l (inCell x) k).map (Value.int .i64)))∧Hid (Below w.heap.size w W)∧Hid (W.heap[w.heap.size]?=some (.cells #[.int .i64 x.row,.int .i64 x.col,.int .i64 x.rows,.int .i64 x.cols,.int .i64 x.ins] 50))) (fun _ i _=>l.length - (intOf i).toNat)
 case atStart=>exact ⟨0,rfl,Nat.zero_le _,⟨by simp [ownL],.inl ⟨rfl,rfl⟩⟩,K0,X0⟩
 case round =>
  obtain ⟨k,rfl,hk,HO,HB,HX⟩:=hrel
  have c1:wr.cell? ⟨w.heap.size,1,none⟩=some (.int .i64 x.col):=cellB HX.out
  have c3:wr.cell? ⟨w.heap.size,3,none⟩=some (.int .i64 x.cols):=cellB HX.out
  by_cases hlt:k < l.length
  ·obtain ⟨b,off,cap',e',hc1,hc2,hbl,hy⟩:=(H.out.kept HB.out).get hlt
   simp only [Value.slice.injEq,true_and] at e'
   obtain ⟨rfl,rfl⟩:=e'
   unfold maxLen at hc2
   have KR:=Hid.intro (HR.out k (by omega) wr)
   have hol:=ownL_len l (inCell x) k
   cases hin:inCell x k with
   | false =>
    have HL:=Hid.intro (ownL_no (l:=l) hin)
    have hin':amongB (k:Int) x.col x.cols=false:=hin
    rw [hin'] at KR
    clear hin hin'
    generalize l.getD k 0=y at hy
    go_wp2_with fail
    refine KR.out.mono ?_
    rintro e w1 ⟨rfl,rfl⟩
    go_wp2
    go_roundw
    case rel=>exact ⟨k+1,by go_num,by omega,by rw [HL.out];exact HO,HB,HX⟩
    case measure=>simp [intOf];omega
   | true =>
    have HL:=Hid.intro (ownL_yes (l:=l) hin)
    have hin':amongB (k:Int) x.col x.cols=true:=hin
    rw [hin'] at KR
    clear hin hin'
    generalize l.getD k 0=y at hy HL
    generalize ownL l (inCell x) k=xs at HO HL hol
    go_wp2_with fail
    refine KR.out.mono ?_
    rintro e w1 ⟨rfl,rfl⟩
    have hO4:=HO.out
    have hsz:w.heap.size < w1.heap.size:=(Array.getElem?_eq_some_iff.1 HX.out).1
    go_wp2_with (at_builtin;refine wpList_append_own _ rfl _ _ 29 rfl (w.heap.size+1) 3 i0 (.int .i64 0) 1 8 Tryz.underlying29 hi hz0 hz1 hz2 rfl (by decide) _ _ _ rfl (hO4.alloc _) ⟨w1.heap.size,0,none⟩ 1 1 [.int .i64 y] rfl rfl ?c1 ?c2 ?c3 ?c4 ?c5 ?_)
    case c1 =>
     intro i u hi
     match i,hi with
     | 0,hi=>simp at hi;subst hi;simp [Addr.add]
    case c2=>intro u hu;simp at hu;subst hu;rfl
    case c3=>unfold maxLen;omega
    case c4=>omega
    case c5=>simp;omega
    intro v' w5 hown' hgrow' _
    obtain ⟨hB5,hX5⟩:=app_keeps (Nat.le_succ _) hO4 HB.out hgrow'
    have HB5:=Hid.intro hB5
    have HX5:=Hid.intro ((hX5 w.heap.size (Nat.lt_succ_self _) (Array.getElem?_eq_some_iff.1 HX.out).1).trans HX.out)
    have HO5:Hid (w5.ownsRow (w.heap.size+1) 3 1 v' (xs ++ [y]).length ((xs ++ [y]).map (Value.int .i64))):=by rw [List.length_append,List.map_append];exact hown'
    obtain ⟨g',cap'',rfl⟩:=Joins.ownsRow_form hown' (by omega)
    clear hown' hgrow' hO4 hB5 hX5 HO HB HX
    go_wp2
    go_roundw
    case rel=>exact ⟨k+1,by go_num,by omega,by rw [HL.out];exact HO5,HB5,HX5⟩
    case measure=>simp [intOf];omega
  ·obtain rfl:k=l.length:=by omega
   have hI:=(RowI.of_owns HO.out).at
   obtain ⟨aa,cc,rfl,_⟩:=hI.form
   have KA:=Hid.intro (implacrossAll _ _ gap wr hI)
   have HV:Hid (cellV l gap x=acrV (ownL l (inCell x) l.length) gap):=rfl
   clear hI
   go_wp2_with fail
   refine KA.out.mono ?_
   rintro e w1 ⟨rfl,rfl⟩
   go_wp2
   go_ret
   exact ⟨rfl,HB.out⟩
end Go.Proofs.YtcbibdhlkdcmiafGreat
namespace Go.Proofs.YtcbibdhlkdcmiafGreat
open Go.RowKit

/-- what is said of a column -/
def sd (ps:List (Int × Int)) (q:Int):Int × Int:=if inB q 0 (ps.length - 1)=true then ps.getD q.toNat (0,0) else (0,0)
theorem sd_no {ps:List (Int × Int)} {q:Int} (h:inB q 0 (ps.length - 1)=false):sd ps q=(0,0):=by unfold sd;rw [if_neg (by rw [h];simp)]
theorem sd_yes {ps:List (Int × Int)} {k:Nat} (h:k < ps.length):sd ps k=ps.getD k (0,0):=by unfold sd;rw [if_pos (inB_true (by omega) (by omega)),Int.toNat_natCast]
def sdT (t:T) (q:Int):Int × Int:=if tblB t=true then sd t.cols q else (0,0)
end Go.Proofs.YtcbibdhlkdcmiafGreat
namespace Go.Proofs.YtcbibdhlkdcmiafGreat
open Go.RowKit

/-- how wide a text would be -/
def wishOf (s:ByteArray):Nat:=if txtOkB s=true then s.size else 0
theorem wishOf_le (s:ByteArray):wishOf s≤30:=by
 unfold wishOf
 split
 ·rename_i h
  exact ((txtOkB_iff s).1 h).1
 ·omega
end Go.Proofs.YtcbibdhlkdcmiafGreat
namespace Go.Proofs.YtcbibdhlkdcmiafGreat
open Go.RowKit

/-- the places up to n that are meant -/
def selN (P:Nat→Bool) (n:Nat):List Nat:=(List.range n).filter P
/-- a list's numbers at these places -/
def selL (l:List Int) (P:Nat→Bool) (n:Nat):List Int:=(selN P n).map (fun i=>l.getD i 0)
theorem selL_len (l:List Int) (P:Nat→Bool) (n:Nat):(selL l P n).length=(selN P n).length:=by simp [selL]
theorem selN_succ (P:Nat→Bool) (n:Nat):selN P (n+1)=selN P n ++ if P n=true then [n] else []:=by
 unfold selN
 rw [List.range_succ,List.filter_append]
 congr 1
 by_cases h:P n=true
 ·simp [h]
 ·simp [h]
theorem selN_get {P:Nat→Bool} {n p:Nat} (h:p < (selN P n).length):(selN P n)[p] < n∧P (selN P n)[p]=true:=by
 have:=List.getElem_mem h
 unfold selN at this
 rw [List.mem_filter,List.mem_range] at this
 exact this
theorem selN_mono {P:Nat→Bool} {n p q:Nat} (hp:p < (selN P n).length) (hq:q < (selN P n).length) (h:p < q):(selN P n)[p] < (selN P n)[q] :=
 List.pairwise_iff_getElem.1 (List.Pairwise.filter P List.pairwise_lt_range) p q hp hq h
theorem selL_get {l:List Int} {P:Nat→Bool} {n p:Nat} (h:p < (selN P n).length):(selL l P n).getD p 0=l.getD (selN P n)[p] 0:=by
 simp [selL,List.getD,h]
theorem selL_sum {l:List Int} {P:Nat→Bool}:∀ n,n≤l.length→(∀ i,i < n→P i=false→l.getD i 0=0)→(selL l P n).sum=sumTo l n
 | 0,_,_=>by simp [selL,selN,sumTo]
 | n+1,hn,hz=>by
  have ih:=selL_sum n (by omega) (fun i hi=>hz i (by omega))
  have e:selL l P (n+1)=selL l P n ++ if P n=true then [l.getD n 0] else []:=by
   unfold selL
   rw [selN_succ,List.map_append]
   congr 1
   split <;> rfl
  rw [e,List.sum_append,ih,sumTo_succ (by omega)]
  cases hP:P n with
  | true=>simp
  | false=>rw [hz n (by omega) hP];simp
theorem sum_lt:∀ {a b:List Int},a.length=b.length→(∀ i,i < a.length→a.getD i 0≤b.getD i 0)→∀ p,p < a.length→a.getD p 0 < b.getD p 0→a.sum < b.sum
 | [],_,_,_,p,hp,_=>absurd hp (Nat.not_lt_zero _)
 | _ :: _,[],h,_,_,_,_=>absurd h (by simp)
 | x :: a,y :: b,h,hle,p,hp,hlt=>by
  have hab:a.length=b.length:=by simpa using h
  have h0:x≤y:=by have:=hle 0 (by simp);simpa using this
  have hr:∀ i,i < a.length→a.getD i 0≤b.getD i 0:=fun i hi=>by have:=hle (i+1) (by simpa using hi);simpa using this
  rw [List.sum_cons,List.sum_cons]
  cases p with
  | zero =>
   have h1:x < y:=by simpa using hlt
   have h2:a.sum≤b.sum:=by
    clear hlt hp hle h h0 h1
    induction a generalizing b with
    | nil=>cases b with
     | nil=>exact Int.le_refl _
     | cons _ _=>simp at hab
    | cons u a ih=>cases b with
     | nil=>simp at hab
     | cons v b =>
      have h3:u≤v:=by have:=hr 0 (by simp);simpa using this
      have:=ih (b:=b) (by simpa using hab) (fun i hi=>by have:=hr (i+1) (by simpa using hi);simpa using this)
      rw [List.sum_cons,List.sum_cons]
      omega
   omega
  | succ p =>
   have:=sum_lt hab hr p (by simpa using hp) (by simpa using hlt)
   omega
/-- two lists of one sum: where one is less somewhere it is more elsewhere -/
theorem other_way {a b:List Int} (hl:a.length=b.length) (hs:a.sum=b.sum) {p:Nat} (hp:p < a.length) (h:a.getD p 0 < b.getD p 0):∃ q,q < a.length∧b.getD q 0 < a.getD q 0:=by
 apply Classical.byContradiction
 intro hn
 have:=sum_lt hl (fun i hi=>Int.not_lt.1 (fun hlt=>hn ⟨i,hi,hlt⟩)) p hp h
 omega
theorem wts_some {l:List Int} (h:l.sum ≠ 0):wts l=l:=by unfold wts;rw [if_neg h]
theorem share_sel {t:Int} {l:List Int} {P:Nat→Bool} (hok:shrOkB t l=true) (hz:∀ i,i < l.length→P i=false→l.getD i 0=0) (hs:l.sum ≠ 0) :
  shrOkB t (selL l P l.length)=true∧shareL t (selL l P l.length)=selL (shareL t l) P l.length:=by
 obtain ⟨ht,hlen,hw⟩:=shrOk_parts hok
 have hsum:(selL l P l.length).sum=l.sum:=by rw [selL_sum l.length (Nat.le_refl _) hz,sumTo_all]
 have hs':(selL l P l.length).sum ≠ 0:=by rw [hsum];exact hs
 have hnl:(selN P l.length).length≤l.length:=by unfold selN;have:=List.length_filter_le P (List.range l.length);simpa using this
 have hok':shrOkB t (selL l P l.length)=true:=by
  simp only [shrOkB,Bool.and_eq_true,decide_eq_true_eq,List.all_eq_true]
  refine ⟨⟨by simp only [wtB,decide_eq_true_eq];exact ht,by rw [selL_len];omega⟩,fun x hx=>?_⟩
  unfold selL at hx
  obtain ⟨i,hi,rfl⟩:=List.mem_map.1 hx
  unfold selN at hi
  have hil:=List.mem_range.1 (List.mem_filter.1 hi).1
  rw [show l.getD i 0=l[i] by simp [List.getD,hil]]
  exact List.all_eq_true.1 hw _ (List.getElem_mem hil)
 refine ⟨hok',?_⟩
 have hpos:0 < l.length:=by
  cases l with
  | nil=>simp at hs
  | cons _ _=>simp
 have hpos':0 < (selL l P l.length).length:=by
  cases h:selL l P l.length with
  | nil=>rw [h] at hs';simp at hs'
  | cons _ _=>simp
 have hL:=shareL_len hok
 have hL':=shareL_len hok'
 have hsh:(selL (shareL t l) P l.length).sum=(shareL t l).sum:=by
  have:=selL_sum (l:=shareL t l) (P:=P) l.length (by omega) (fun i hi hP=>share_zero hok hs hi (hz i hi hP))
  rw [this,← hL,sumTo_all]
 have hss:(shareL t (selL l P l.length)).sum=(selL (shareL t l) P l.length).sum:=by rw [hsh,share_sum hok hpos,share_sum hok' hpos']
 have hll:(shareL t (selL l P l.length)).length=(selL (shareL t l) P l.length).length:=by rw [hL',selL_len,selL_len]
 have hw1:=wts_some hs
 have hw2:=wts_some hs'
 -- the two orders are one
 have hord:∀ p q,(hp:p < (selN P l.length).length)→(hq:q < (selN P l.length).length)→tB (cl t (selL l P l.length) p) (cl t (selL l P l.length) q)=tB (cl t l (selN P l.length)[p]) (cl t l (selN P l.length)[q]):=by
  intro p q hp hq
  rw [Bool.eq_iff_iff,tB_iff,tB_iff]
  simp only [cl,hsum,selL_get hp,selL_get hq]
  have hm:((p:Int) < (q:Int)) ↔ (((selN P l.length)[p]:Nat):Int) < (((selN P l.length)[q]:Nat):Int):=by
   constructor
   ·intro h;have:=selN_mono hp hq (by omega);omega
   ·intro h
    rcases Nat.lt_trichotomy p q with h1 | h1 | h1
    ·omega
    ·subst h1;omega
    ·have:=selN_mono hq hp h1;omega
  have he:((p:Int)=(q:Int)) ↔ (((selN P l.length)[p]:Nat):Int)=(((selN P l.length)[q]:Nat):Int):=by
   constructor
   ·intro h;have:p=q:=by omega
    subst this;rfl
   ·intro h
    rcases Nat.lt_trichotomy p q with h1 | h1 | h1
    ·have:=selN_mono hp hq h1;omega
    ·omega
    ·have:=selN_mono hq hp h1;omega
  rw [hm,he]
 have hA:∀ p,(hp:p < (selN P l.length).length)→(shareL t (selL l P l.length)).getD p 0=t * l.getD (selN P l.length)[p] 0 / l.sum+if cl t (selL l P l.length) p ∈ (srtL t (selL l P l.length)).take (leftN t (selL l P l.length)) then 1 else 0:=by
  intro p hp
  rw [share_get hok' (by rw [selL_len];exact hp),hw2,hsum,selL_get hp]
 have hB:∀ p,(hp:p < (selN P l.length).length)→(selL (shareL t l) P l.length).getD p 0=t * l.getD (selN P l.length)[p] 0 / l.sum+if cl t l (selN P l.length)[p] ∈ (srtL t l).take (leftN t l) then 1 else 0:=by
  intro p hp
  rw [selL_get hp,share_get hok (selN_get hp).1,hw1]
 -- one that got more here and one that got more there cannot both be
 have hno:∀ p q,(hp:p < (selN P l.length).length)→(hq:q < (selN P l.length).length)→(shareL t (selL l P l.length)).getD p 0 < (selL (shareL t l) P l.length).getD p 0→(selL (shareL t l) P l.length).getD q 0 < (shareL t (selL l P l.length)).getD q 0→False:=by
  intro p q hp hq h1 h2
  rw [hA p hp,hB p hp] at h1
  rw [hA q hq,hB q hq] at h2
  have hpl:p < (selL l P l.length).length:=by rw [selL_len];exact hp
  have hql:q < (selL l P l.length).length:=by rw [selL_len];exact hq
  by_cases a1:cl t (selL l P l.length) p ∈ (srtL t (selL l P l.length)).take (leftN t (selL l P l.length))
  ·rw [if_pos a1] at h1;split at h1 <;> omega
  by_cases a2:cl t l (selN P l.length)[q] ∈ (srtL t l).take (leftN t l)
  ·rw [if_pos a2] at h2;split at h2 <;> omega
  by_cases b1:cl t l (selN P l.length)[p] ∈ (srtL t l).take (leftN t l)
  case neg=>rw [if_neg a1,if_neg b1] at h1;omega
  by_cases b2:cl t (selL l P l.length) q ∈ (srtL t (selL l P l.length)).take (leftN t (selL l P l.length))
  case neg=>rw [if_neg a2,if_neg b2] at h2;omega
  have hpq:p ≠ q:=fun e=>by subst e;exact a1 b2
  have htot:tB (cl t l (selN P l.length)[p]) (cl t l (selN P l.length)[q])=true∨tB (cl t l (selN P l.length)[q]) (cl t l (selN P l.length)[p])=true:=by
   rw [tB_iff,tB_iff]
   simp only [cl]
   have:(selN P l.length)[p] ≠ (selN P l.length)[q]:=by
    rcases Nat.lt_or_gt_of_ne hpq with h | h
    ·have:=selN_mono hp hq h;omega
    ·have:=selN_mono hq hp h;omega
   omega
  rcases htot with h | h
  ·rw [← hord p q hp hq] at h
   exact a1 (ahead_got hpl h b2)
  ·exact a2 (ahead_got (selN_get hq).1 h b1)
 apply List.ext_getElem hll
 intro p h1 h2
 have hp:p < (selN P l.length).length:=by rw [hL',selL_len] at h1;exact h1
 have e1:(shareL t (selL l P l.length))[p]=(shareL t (selL l P l.length)).getD p 0:=by simp [List.getD,h1]
 have e2:(selL (shareL t l) P l.length)[p]=(selL (shareL t l) P l.length).getD p 0:=by simp [List.getD,h2]
 rw [e1,e2]
 apply Classical.byContradiction
 intro hne
 rcases Int.lt_or_gt_of_ne hne with h | h
 ·obtain ⟨q,hq,hlt⟩:=other_way hll hss h1 h
  exact hno p q hp (by rw [hL',selL_len] at hq;exact hq) h hlt
 ·obtain ⟨q,hq,hlt⟩:=other_way hll.symm hss.symm h2 h
  have hq':q < (selN P l.length).length:=by rw [selL_len] at hq;exact hq
  exact hno q p hq' hp hlt h
end Go.Proofs.YtcbibdhlkdcmiafGreat
namespace Go.Proofs.YtcbibdhlkdcmiafGreat
open Go.RowKit

/-- what each gets, and what is left, if nobody gets more than it wants -/
def upToL (t:Int) (l:List Int):List Int:=if shrOkB t l=true then (if l.sum≤t then l else shareL t l) else []
def upToN (t:Int) (l:List Int):Int:=if shrOkB t l=true then (if l.sum≤t then t - l.sum else 0) else 0
theorem upTo_all {t:Int} {l:List Int} (h:shrOkB t l=true) (hs:l.sum≤t):upToL t l=l∧upToN t l=t - l.sum:=by simp [upToL,upToN,h,hs]
theorem upTo_share {t:Int} {l:List Int} (h:shrOkB t l=true) (hs:¬ l.sum≤t):upToL t l=shareL t l∧upToN t l=0:=by simp [upToL,upToN,h,hs]
theorem retT {x:Value} {a b:Int} (h:a=b):Ending.returned (.tuple #[x,.int .i64 a])=.returned (.tuple #[x,.int .i64 b]):=by rw [h]
end Go.Proofs.YtcbibdhlkdcmiafGreat
namespace Go.Proofs.YtcbibdhlkdcmiafGreat
open Go.RowKit

theorem sel_ok {t:Int} {l:List Int} {P:Nat→Bool} (hok:shrOkB t l=true):shrOkB t (selL l P l.length)=true:=by
 obtain ⟨ht,hlen,hw⟩:=shrOk_parts hok
 have hnl:(selN P l.length).length≤l.length:=by unfold selN;have:=List.length_filter_le P (List.range l.length);simpa using this
 simp only [shrOkB,Bool.and_eq_true,decide_eq_true_eq,List.all_eq_true]
 refine ⟨⟨by simp only [wtB,decide_eq_true_eq];exact ht,by rw [selL_len];omega⟩,fun x hx=>?_⟩
 unfold selL at hx
 obtain ⟨i,hi,rfl⟩:=List.mem_map.1 hx
 unfold selN at hi
 have hil:=List.mem_range.1 (List.mem_filter.1 hi).1
 rw [show l.getD i 0=l[i] by simp [List.getD,hil]]
 exact List.all_eq_true.1 hw _ (List.getElem_mem hil)
/-- up to what each wants -/
theorem upTo_sel {t:Int} {l:List Int} {P:Nat→Bool} (hok:shrOkB t l=true) (hz:∀ i,i < l.length→P i=false→l.getD i 0=0) :
  upToL t (selL l P l.length)=selL (upToL t l) P l.length∧upToN t (selL l P l.length)=upToN t l:=by
 have hsum:(selL l P l.length).sum=l.sum:=by rw [selL_sum l.length (Nat.le_refl _) hz,sumTo_all]
 have hok':=sel_ok (P:=P) hok
 by_cases hs:l.sum≤t
 ·rw [(upTo_all hok hs).1,(upTo_all hok hs).2,(upTo_all hok' (by rw [hsum];exact hs)).1,(upTo_all hok' (by rw [hsum];exact hs)).2,hsum]
  exact ⟨rfl,rfl⟩
 ·have ht:=(shrOk_parts hok).1.1
  rw [(upTo_share hok hs).1,(upTo_share hok hs).2,(upTo_share hok' (by rw [hsum];exact hs)).1,(upTo_share hok' (by rw [hsum];exact hs)).2]
  exact ⟨(share_sel hok hz (by omega)).2,rfl⟩
/-- one for each that is meant -/
def oneL (P:Nat→Bool) (n:Nat):List Int:=(List.range n).map (fun i=>if P i=true then 1 else 0)
theorem oneL_len (P:Nat→Bool) (n:Nat):(oneL P n).length=n:=by simp [oneL]
theorem oneL_get {P:Nat→Bool} {n i:Nat} (h:i < n):(oneL P n).getD i 0=if P i=true then 1 else 0:=by simp [oneL,List.getD,h]
theorem oneL_ok {t:Int} (P:Nat→Bool) {n:Nat} (ht:0≤t∧t≤100000) (hn:n≤100):shrOkB t (oneL P n)=true:=by
 simp only [shrOkB,Bool.and_eq_true,decide_eq_true_eq,List.all_eq_true]
 refine ⟨⟨by simp only [wtB,decide_eq_true_eq];exact ht,by rw [oneL_len];exact hn⟩,fun x hx=>?_⟩
 unfold oneL at hx
 obtain ⟨i,_,rfl⟩:=List.mem_map.1 hx
 simp only [wtB,decide_eq_true_eq]
 split <;> omega
theorem sel_one (P:Nat→Bool) (n:Nat):selL (oneL P n) P n=List.replicate (selN P n).length 1:=by
 apply List.ext_getElem (by simp [selL])
 intro p h1 h2
 have hp:p < (selN P n).length:=by simpa [selL] using h1
 have hg:=selN_get hp
 have e:(selL (oneL P n) P n)[p]=(selL (oneL P n) P n).getD p 0:=by simp [List.getD,h1]
 rw [e,selL_get hp,oneL_get hg.1,if_pos hg.2]
 simp
theorem wts_zero (m:Nat):wts (List.replicate m (0:Int))=List.replicate m 1:=by
 unfold wts
 rw [if_pos (by induction m with
  | zero=>rfl
  | succ m ih=>rw [List.replicate_succ,List.sum_cons,ih];rfl)]
 simp
theorem wts_one (m:Nat):wts (List.replicate m (1:Int))=List.replicate m 1:=by
 unfold wts
 split
 ·simp
 ·rfl
/-- alike -/
theorem share_alike_sel {t:Int} (P:Nat→Bool) {n:Nat} (ht:0≤t∧t≤100000) (hn:n≤100) (h0:0 < (selN P n).length) :
  shareL t (List.replicate (selN P n).length 0)=selL (shareL t (oneL P n)) P n:=by
 have hok:=oneL_ok P (n:=n) ht hn
 have hz:∀ i,i < (oneL P n).length→P i=false→(oneL P n).getD i 0=0:=fun i hi hP=>by
  rw [oneL_len] at hi
  rw [oneL_get hi,if_neg (by rw [hP];simp)]
 have hnl:(selN P n).length≤n:=by unfold selN;have:=List.length_filter_le P (List.range n);simpa using this
 have hsum:(oneL P n).sum=((selN P n).length:Int):=by
  have:=selL_sum (l:=oneL P n) (P:=P) (oneL P n).length (Nat.le_refl _) hz
  rw [sumTo_all,oneL_len,sel_one,sum_ones] at this
  exact this.symm
 have h1:=(share_sel hok hz (by rw [hsum];omega)).2
 rw [oneL_len,sel_one] at h1
 rw [← h1]
 have hok0:shrOkB t (List.replicate (selN P n).length 0)=true:=by
  simp only [shrOkB,Bool.and_eq_true,decide_eq_true_eq,List.all_eq_true]
  exact ⟨⟨by simp only [wtB,decide_eq_true_eq];exact ht,by simp;omega⟩,fun x hx=>by rw [List.eq_of_mem_replicate hx];rfl⟩
 have hok1:shrOkB t (List.replicate (selN P n).length 1)=true:=by
  simp only [shrOkB,Bool.and_eq_true,decide_eq_true_eq,List.all_eq_true]
  exact ⟨⟨by simp only [wtB,decide_eq_true_eq];exact ht,by simp;omega⟩,fun x hx=>by rw [List.eq_of_mem_replicate hx];rfl⟩
 rw [shareL_some hok0 (by rw [← List.length_pos_iff];simpa using h0),shareL_some hok1 (by rw [← List.length_pos_iff];simpa using h0),wts_zero,wts_one]
/-- numbers, one by one together -/
def addL (a b:List Int):List Int:=List.zipWith (·+·) a b
/-- the first k of the places that are meant get what is theirs -/
def giveTo (l:List Int) (js:List Nat) (g:List Int):Nat→List Int
 | 0=>l
 | k+1=>(giveTo l js g k).set (js.getD k 0) ((giveTo l js g k).getD (js.getD k 0) 0+g.getD k 0)
theorem giveTo_len (l:List Int) (js:List Nat) (g:List Int):∀ k,(giveTo l js g k).length=l.length
 | 0=>rfl
 | k+1=>by rw [giveTo,List.length_set];exact giveTo_len l js g k
theorem giveTo_out (l:List Int) (js:List Nat) (g:List Int) {i:Nat}:∀ k,(∀ p,p < k→js.getD p 0 ≠ i)→(giveTo l js g k).getD i 0=l.getD i 0
 | 0,_=>rfl
 | k+1,h=>by
  rw [giveTo]
  simp only [List.getD,List.getElem?_set_ne (show js[k]?.getD 0 ≠ i from h k (by omega))]
  exact giveTo_out l js g k (fun p hp=>h p (by omega))
theorem giveTo_in {l:List Int} {P:Nat→Bool} {n:Nat} (hn:n≤l.length) (g:List Int) {p:Nat}:∀ k,k≤(selN P n).length→p < k→(giveTo l (selN P n) g k).getD ((selN P n).getD p 0) 0=l.getD ((selN P n).getD p 0) 0+g.getD p 0
 | k+1,hk,hp=>by
  have hkl:k < (selN P n).length:=by omega
  have ek:(selN P n).getD k 0=(selN P n)[k]:=by simp [List.getD,hkl]
  have hpl:p < (selN P n).length:=by omega
  have ep:(selN P n).getD p 0=(selN P n)[p]:=by simp [List.getD,hpl]
  rw [giveTo]
  by_cases e:p=k
  ·subst e
   have hlt:(selN P n).getD p 0 < (giveTo l (selN P n) g p).length:=by rw [giveTo_len,ep];have:=(selN_get hpl).1;omega
   have ho:=giveTo_out l (selN P n) g (i:=(selN P n).getD p 0) p (fun q hq=>by
    have hql:q < (selN P n).length:=by omega
    have:=selN_mono hql hpl hq
    rw [ep,show (selN P n).getD q 0=(selN P n)[q] by simp [List.getD,hql]]
    omega)
   rw [ho]
   generalize (selN P n).getD p 0=j at hlt
   simp only [List.getD,List.getElem?_set_self hlt,Option.getD_some]
  ·have hne:(selN P n).getD k 0 ≠ (selN P n).getD p 0:=by
    have:=selN_mono hpl hkl (by omega)
    rw [ek,ep]
    omega
   have ih:=giveTo_in (P:=P) hn g (p:=p) k (by omega) (by omega)
   rw [← ih]
   generalize (selN P n).getD k 0=j at hne
   generalize (selN P n).getD p 0=i at hne
   simp only [List.getD,List.getElem?_set_ne hne]
/-- what is given to some is what is given to all, if all others get nothing -/
theorem give_all {l more:List Int} {P:Nat→Bool} (hl:more.length=l.length) (hz:∀ i,i < l.length→P i=false→more.getD i 0=0):giveTo l (selN P l.length) (selL more P l.length) (selN P l.length).length=addL l more:=by
 have hlen:(giveTo l (selN P l.length) (selL more P l.length) (selN P l.length).length).length=(addL l more).length:=by rw [giveTo_len,addL,List.length_zipWith,hl];omega
 apply List.ext_getElem hlen
 intro i h1 h2
 have hi:i < l.length:=by rw [giveTo_len] at h1;exact h1
 have hm:i < more.length:=by omega
 have e1:(giveTo l (selN P l.length) (selL more P l.length) (selN P l.length).length)[i]=(giveTo l (selN P l.length) (selL more P l.length) (selN P l.length).length).getD i 0:=by simp [List.getD,h1]
 have e2:(addL l more)[i]=l.getD i 0+more.getD i 0:=by simp [addL,List.getD,hi,hm]
 rw [e1,e2]
 cases hP:P i with
 | false =>
  rw [hz i hi hP,giveTo_out l _ _ _ (fun p hp e=>by
   have:=(selN_get hp).2
   rw [show (selN P l.length).getD p 0=(selN P l.length)[p] by simp [List.getD,hp]] at e
   rw [e,hP] at this
   cases this)]
  omega
 | true =>
  have hmem:i ∈ selN P l.length:=by unfold selN;rw [List.mem_filter];exact ⟨List.mem_range.2 hi,hP⟩
  obtain ⟨p,hp,hpe⟩:=List.getElem_of_mem hmem
  have hd:(selN P l.length).getD p 0=i:=by simp [List.getD,hp,hpe]
  have:=giveTo_in (l:=l) (P:=P) (n:=l.length) (Nat.le_refl _) (selL more P l.length) (p:=p) (selN P l.length).length (Nat.le_refl _) hp
  rw [hd,selL_get hp,hpe] at this
  exact this
end Go.Proofs.YtcbibdhlkdcmiafGreat
