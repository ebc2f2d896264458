/-
  PROVED HERE: what the model's WidCell answers of any list of numbers in memory and any cell; nothing that was in memory is turned. Also: what the model's l4Share answers at every argument that may be, of no weights too. Also: what the model's l4UpTo answers at every argument that may be, in memory of its own; nothing that was in memory is turned. Also: lists of texts that own their memory are lists of texts in memory; how long texts are, put together. Also: how high rows are, as lists: each as high as the cells need whose last row it is, beside what their rows above have. A cell is a row, a number of rows, a number of lines. Also: what the program's HgtCell answers of any list of numbers in memory and any cell; nothing that was in memory is turned. Also: the laws' own pwOk says true; nothing in memory is turned. Also: what the program's TxtJoin answers of texts that lie in memory: the same as the model's ('joinTo'); nothing that was in memory is turned. Also: the drawing of a width (l20Width) gives a number from -1 to 301, and turns nothing that was in memory but the reader.
-/
import Derived.Test.YtcbibdhlkdcmiafGreatB26
import Derived.Test.YtcbibdhlkdcmiafGreatB31
import Derived.Test.YtcbibdhlkdcmiafGreatB30
import Derived.Test.YtcbibdhlkdcmiafGreatB24
import Derived.Test.YtcbibdhlkdcmiafGreatB2
import Derived.Test.YtcbibdhlkdcmiafGreatB7
import Derived.Test.YtcbibdhlkdcmiafGreatB15
import Derived.Test.YtcbibdhlkdcmiafGreatB12
import Derived.Laws.AppendOwn
import Derived.Test.YtcbibdhlkdcmiafGreatShelf
namespace Go.Proofs.YtcbibdhlkdcmiafGreat
open Go.RowKit

set_option maxRecDepth 100000 in
set_option maxHeartbeats 1000000 in
theorem specWidCell (v:Value) (l:List Int) (hl:l.length≤1048576) (gap:Int) (x:GC) (hx:GOk x) (w:World) (h:IntsAt w v l) :
  Calls Tryz.prog 99 #[v,.int .i64 gap,.agg #[.int .i64 x.row,.int .i64 x.col,.int .i64 x.rows,.int .i64 x.cols,.int .i64 x.ins]] w fun e w'=>e=.returned (.int .i64 (cellV l gap x))∧Below w.heap.size w w':=by
 obtain ⟨a,cap,rfl,hlen⟩:=h.form
 obtain ⟨_,b1,_,b3,_⟩:=hx
 have K0:=k_alloc (Below.refl w.heap.size w) (.cells #[.int .i64 x.row,.int .i64 x.col,.int .i64 x.rows,.int .i64 x.cols,.int .i64 x.ins] 50)
 have X0:=newestB w (.cells #[.int .i64 x.row,.int .i64 x.col,.int .i64 x.rows,.int .i64 x.cols,.int .i64 x.ins] 50)
 have c1:=cellB (p:=1) X0
 have c3:=cellB (p:=3) X0
 have H:=Hid.intro (h.kept K0)
 have HB:=Hid.intro K0
 have HR:=Hid.intro (fun (k:Nat) (hk:k≤1048576)=>l1Among_any (k:Int) x.col x.cols (by unfold I64;omega) b1 b3)
 clear h b1 b3 K0 X0
 go_enter Tryz.func99,Tryz.ntmps99
 go_wp2_with fail
 generalize w.alloc (.cells #[.int .i64 x.row,.int .i64 x.col,.int .i64 x.rows,.int .i64 x.cols,.int .i64 x.ins] 50)=W0 at c1 c3 H HB ⊢
 go_loop [7,8,9] (fun n s i=>∃ k:Nat,i=.int .i64 k∧k≤l.length∧n=.int .i64 (acrV (ownL l (inCell x) k) gap)∧s=.bool (decide ((ownL l (inCell x) k).length ≠ 0))) (fun _ _ i=>l.length - (intOf i).toNat)
 case atStart=>exact ⟨0,rfl,Nat.zero_le _,rfl,rfl⟩
 case round =>
  obtain ⟨k,rfl,hk,rfl,rfl⟩:=hrel
  have d1:W0.cell? ⟨w.heap.size,1,none⟩=some (.int .i64 x.col):=c1
  have d3:W0.cell? ⟨w.heap.size,3,none⟩=some (.int .i64 x.cols):=c3
  by_cases hlt:k < l.length
  ·obtain ⟨b,off,cap',e',hc1,hc2,hbl,hy⟩:=H.out.get hlt
   simp only [Value.slice.injEq,true_and] at e'
   obtain ⟨rfl,rfl⟩:=e'
   unfold maxLen at hc2
   have KR:=Hid.intro (HR.out k (by omega) W0)
   cases hin:inCell x k with
   | false =>
    have HL:=Hid.intro (ownL_no (l:=l) hin)
    have hin':amongB (k:Int) x.col x.cols=false:=hin
    rw [hin'] at KR
    clear hin hin'
    generalize l.getD k 0=y at hy
    generalize ownL l (inCell x) k=xs at HL ⊢
    obtain ⟨z,hz⟩:∃ z,decide (xs.length ≠ 0)=z:=⟨_,rfl⟩
    have HZ:=Hid.intro hz
    rw [hz]
    clear hz
    go_wp2_with fail
    refine KR.out.mono ?_
    rintro e w1 ⟨rfl,rfl⟩
    go_wp2
    go_round
    case rel=>exact ⟨k+1,by go_num,by omega,by rw [HL.out],by rw [HL.out,HZ.out]⟩
    case measure=>simp [intOf];omega
   | true =>
    have HL:=Hid.intro (ownL_yes (l:=l) hin)
    have hin':amongB (k:Int) x.col x.cols=true:=hin
    rw [hin'] at KR
    clear hin hin'
    generalize l.getD k 0=y at hy HL
    generalize ownL l (inCell x) k=xs at HL ⊢
    by_cases hx0:xs.length=0
    ·have HN:=Hid.intro (acrV_first xs hx0 gap y)
     have hd:decide (xs.length ≠ 0)=false:=by simp [hx0]
     rw [hd]
     generalize acrV xs gap=z at HN ⊢
     clear hx0 hd
     go_wp2_with fail
     refine KR.out.mono ?_
     rintro e w1 ⟨rfl,rfl⟩
     go_wp2
     go_round
     case rel=>exact ⟨k+1,by go_num,by omega,by rw [HL.out,HN.out],by rw [HL.out];simp⟩
     case measure=>simp [intOf];omega
    ·have HN:=Hid.intro (acrV_next xs hx0 gap y)
     have hd:decide (xs.length ≠ 0)=true:=by simp [hx0]
     rw [hd]
     generalize acrV xs gap=z at HN ⊢
     clear hx0 hd
     go_wp2_with fail
     refine KR.out.mono ?_
     rintro e w1 ⟨rfl,rfl⟩
     go_wp2
     go_round
     case rel=>exact ⟨k+1,by go_num,by omega,by rw [HL.out,HN.out],by rw [HL.out];simp⟩
     case measure=>simp [intOf];omega
  ·obtain rfl:k=l.length:=by omega
   have HV:Hid (acrV (ownL l (inCell x) l.length) gap=cellV l gap x):=rfl
   rw [HV.out]
   generalize decide ((ownL l (inCell x) l.length).length ≠ 0)=z
   go_wp2
   go_ret
   exact ⟨rfl,HB.out⟩
end Go.Proofs.YtcbibdhlkdcmiafGreat
namespace Go.Proofs.YtcbibdhlkdcmiafGreat
open Go.RowKit

theorem row_lit (w:World) (B:Nat) (hB:B≤w.heap.size):RowI (w.alloc (.cells #[] 3)) B (w.alloc (.cells #[] 3)).heap.size (.slice (some ⟨w.heap.size,0,none⟩) 0 0) [] :=
 .inr ⟨w.heap.size,0,#[],rfl,hB,by simp,newestB _ _,Nat.le_refl _,Nat.zero_le _,rfl,fun i hi=>absurd hi (Nat.not_lt_zero _)⟩

set_option maxRecDepth 100000 in
set_option maxHeartbeats 4000000 in
theorem l4Share_nil (t:Int) (ht:0≤t∧t≤100000) (a:Option Addr) (cap:Nat) (w:World) :
  Calls Tryz.prog 83 #[.int .i64 t,.slice a 0 cap] w fun e w'=>∃ x,e=.returned x∧RowI w' w.heap.size w'.heap.size x []∧Below w.heap.size w w':=by
 have hmk:∀ u:World,(Instr.makeSlice 144 (.int .i64 0) (.int .i64 0)).run Tryz.prog u=.ok (.slice (some ⟨u.heap.size,0,none⟩) 0 0) (u.alloc (.cells (newBo 0) 4)):=fun u=>makeBo 0 (by omega) u
 have CS:=Hid.intro (fun (v:Value) (W:World) (h:IntsAt W v [])=>specl1Sum_any v [] (by simp) rfl W h)
 have emp:∀ (W:World) (aa:Option Addr),IntsAt W (.slice aa 0 0) []:=fun W aa=>⟨aa,0,rfl,Nat.le_refl _,Nat.zero_le _,fun i hi=>absurd hi (Nat.not_lt_zero _)⟩
 have EM:=Hid.intro emp
 clear emp
 cases a with
 | none =>
  go_enter Tryz.func83,Tryz.ntmps83
  go_wp2_with (go_at_call 49;refine (CS.out _ _ (EM.out _ _)).mono ?_;rintro e wx ⟨rfl,ex⟩;cases ex)
  go_loopw [6] (fun s6 W=>s6=.int .i64 0∧Hid (Below w.heap.size w W)) (fun _ _=>0)
  case atStart=>exact ⟨rfl,k_alloc (Below.refl _ _) _⟩
  case round =>
   obtain ⟨rfl,HB⟩:=hrel
   have hwr:=HB.out.size
   go_wp2_with (go_at_call 49;refine (CS.out _ _ (EM.out _ _)).mono ?_;rintro e wx ⟨rfl,ex⟩;cases ex)
   have R0:=Hid.intro (((row_lit wr w.heap.size hwr).below (k_alloc (k_alloc (Below.refl _ _) (.cells #[] 3)) (.cells (newBo 0) 4)) (Nat.le_refl _)).base (Nat.le_refl _) (Nat.le_trans (by simp) (Nat.le_refl ((((wr.alloc (.cells #[] 3)).alloc (.cells #[] 3)).alloc (.cells (newBo 0) 4)).heap.size))))
   have B0:=Hid.intro (k_alloc (k_alloc (k_alloc HB.out (.cells #[] 3)) (.cells #[] 3)) (.cells (newBo 0) 4))
   go_loopw [8,9,11] (fun s8 s9 s11 W=>(∃ a8,s8=.slice a8 0 0)∧(∃ a9,s9=.slice a9 0 0)∧s11=.int .i64 0∧Hid (RowI W w.heap.size W.heap.size s8 [])∧Hid (Below w.heap.size w W)) (fun _ _ _ _=>0)
   case atStart=>exact ⟨⟨_,rfl⟩,⟨_,rfl⟩,rfl,R0,B0⟩
   case round =>
    clear R0 B0
    obtain ⟨⟨a8,rfl⟩,⟨a9,rfl⟩,rfl,HR,HB2⟩:=hrel
    go_wp2_with (go_at_call 49;refine (CS.out _ _ (EM.out _ _)).mono ?_;rintro e wx ⟨rfl,ex⟩;cases ex)
    go_loopw [12] (fun s12 W=>s12=.int .i64 t∧Hid (RowI W w.heap.size W.heap.size (.slice a8 0 0) [])∧Hid (Below w.heap.size w W)) (fun _ _=>0)
    case atStart=>exact ⟨by simp,HR,HB2⟩
    case round =>
     clear HR HB2
     obtain ⟨rfl,HR,HB2⟩:=hrel
     by_cases h0:0 < t
     ·go_wp2
      go_ret
      exact ⟨_,rfl,HR.out,HB2.out⟩
     ·go_wp2
      go_ret
      exact ⟨_,rfl,HR.out,HB2.out⟩
 | some p =>
  go_enter Tryz.func83,Tryz.ntmps83
  go_wp2_with (go_at_call 49;refine (CS.out _ _ (EM.out _ _)).mono ?_;rintro e wx ⟨rfl,ex⟩;cases ex)
  go_loopw [6] (fun s6 W=>s6=.int .i64 0∧Hid (Below w.heap.size w W)) (fun _ _=>0)
  case atStart=>exact ⟨rfl,k_alloc (Below.refl _ _) _⟩
  case round =>
   obtain ⟨rfl,HB⟩:=hrel
   have hwr:=HB.out.size
   go_wp2_with (go_at_call 49;refine (CS.out _ _ (EM.out _ _)).mono ?_;rintro e wx ⟨rfl,ex⟩;cases ex)
   have R0:=Hid.intro (((row_lit wr w.heap.size hwr).below (k_alloc (k_alloc (Below.refl _ _) (.cells #[] 3)) (.cells (newBo 0) 4)) (Nat.le_refl _)).base (Nat.le_refl _) (Nat.le_trans (by simp) (Nat.le_refl ((((wr.alloc (.cells #[] 3)).alloc (.cells #[] 3)).alloc (.cells (newBo 0) 4)).heap.size))))
   have B0:=Hid.intro (k_alloc (k_alloc (k_alloc HB.out (.cells #[] 3)) (.cells #[] 3)) (.cells (newBo 0) 4))
   go_loopw [8,9,11] (fun s8 s9 s11 W=>(∃ a8,s8=.slice a8 0 0)∧(∃ a9,s9=.slice a9 0 0)∧s11=.int .i64 0∧Hid (RowI W w.heap.size W.heap.size s8 [])∧Hid (Below w.heap.size w W)) (fun _ _ _ _=>0)
   case atStart=>exact ⟨⟨_,rfl⟩,⟨_,rfl⟩,rfl,R0,B0⟩
   case round =>
    clear R0 B0
    obtain ⟨⟨a8,rfl⟩,⟨a9,rfl⟩,rfl,HR,HB2⟩:=hrel
    go_wp2_with (go_at_call 49;refine (CS.out _ _ (EM.out _ _)).mono ?_;rintro e wx ⟨rfl,ex⟩;cases ex)
    go_loopw [12] (fun s12 W=>s12=.int .i64 t∧Hid (RowI W w.heap.size W.heap.size (.slice a8 0 0) [])∧Hid (Below w.heap.size w W)) (fun _ _=>0)
    case atStart=>exact ⟨by simp,HR,HB2⟩
    case round =>
     clear HR HB2
     obtain ⟨rfl,HR,HB2⟩:=hrel
     by_cases h0:0 < t
     ·go_wp2
      go_ret
      exact ⟨_,rfl,HR.out,HB2.out⟩
     ·go_wp2
      go_ret
      exact ⟨_,rfl,HR.out,HB2.out⟩

set_option maxRecDepth 100000 in
set_option maxHeartbeats 2000000 in
theorem specl4Share (t:Int) (v:Value) (l:List Int) (hok:shrOkB t l=true) (w:World) (h:IntsAt w v l) :
  Calls Tryz.prog 83 #[.int .i64 t,v] w fun e w'=>∃ x,e=.returned x∧RowI w' w.heap.size w'.heap.size x (shareL t l)∧Below w.heap.size w w':=by
 by_cases h0:0 < l.length
 ·exact l4Share_any t v l hok h0 w h
 ·obtain rfl:l=[]:=List.eq_nil_of_length_eq_zero (by omega)
  obtain ⟨a,cap,rfl,_⟩:=h.form
  rw [shareL_none (by simp)]
  exact l4Share_nil t (shrOk_parts hok).1 a cap w
end Go.Proofs.YtcbibdhlkdcmiafGreat
namespace Go.Proofs.YtcbibdhlkdcmiafGreat
open Go.RowKit

set_option maxRecDepth 100000 in
set_option maxHeartbeats 4000000 in
theorem specl4UpTo (t:Int) (v:Value) (l:List Int) (hok:shrOkB t l=true) (w:World) (h:IntsAt w v l) :
  Calls Tryz.prog 79 #[.int .i64 t,v] w fun e w'=>∃ x,e=.returned (.tuple #[x,.int .i64 (upToN t l)])∧RowI w' w.heap.size w'.heap.size x (upToL t l)∧Below w.heap.size w w':=by
 obtain ⟨i0,hi0,hz0,hz1,hz2⟩:=info_parts infoI4
 obtain ⟨a,cap,rfl,_⟩:=h.form
 have H:=Hid.intro h
 obtain ⟨ht,hl,hw⟩:=shrOk_parts hok
 have hsb:=sum_bound hw
 have HS:=Hid.intro (fun W=>specl1Sum_any (.slice a l.length cap) l (by omega) hw W)
 by_cases hs:l.sum≤t
 ·obtain ⟨e1,e2⟩:=upTo_all hok hs
  have E1:=Hid.intro e1
  have E2:=Hid.intro e2
  clear e1 e2 hw
  by_cases h0:0 < l.length
  ·obtain ⟨b,off,cap',e',_,_,hbw,_⟩:=h.get h0
   simp only [Value.slice.injEq,true_and] at e'
   obtain ⟨rfl,rfl⟩:=e'
   clear h
   go_enter Tryz.func79,Tryz.ntmps79
   go_wp2_with fail
   refine (HS.out _ H.out).mono ?_
   rintro e w1 ⟨rfl,ex⟩
   cases ex
   generalize l.sum=s at hs E2 hsb
   go_wp2_with (at_builtin;refine wpList_append_own_at _ rfl _ _ 29 rfl w.heap.size 3 i0 (.int .i64 0) 1 8 Tryz.underlying29 hi0 hz0 hz1 hz2 rfl (by decide) _ 0 [] rfl (World.ownsRow_made (base:=w.heap.size) (e:=3) (size:=1) w #[] 0 (Nat.le_refl _) (Nat.zero_le _) rfl) ⟨b,off,none⟩ l.length cap (l.map (Value.int .i64)) rfl ?e1 (map_cells H.out (k_alloc (Below.refl _ _) _)) (map_one l) ?e4 ?e5 ?e6 ?_)
   case e1=>simp
   case e4=>unfold maxLen;omega
   case e5=>omega
   case e6=>simp
   intro v5 w5 ho5 hg5 _ _
   have R5:=Hid.intro (RowI.of_owns (l:=l) (by simpa using ho5))
   have K5:Hid (Below w.heap.size w w5):=(k_alloc (Below.refl w.heap.size w) (.cells #[] 3)).grown hg5 (by simp) (fun q hq=>by
    have:q=w.heap.size:=by simpa [Value.ownBlock] using hq.symm
    omega)
   obtain ⟨a5,c5,rfl⟩:=R5.out.form
   clear ho5 hg5
   go_wp2
   go_ret2
   exact ⟨_,retT E2.out.symm,by rw [E1.out];exact R5.out,K5.out⟩
  ·obtain rfl:l=[]:=List.eq_nil_of_length_eq_zero (by omega)
   clear h
   cases a with
   | none =>
    go_enter Tryz.func79,Tryz.ntmps79
    go_wp2_with fail
    refine (HS.out _ H.out).mono ?_
    rintro e w1 ⟨rfl,ex⟩
    cases ex
    generalize ([]:List Int).sum=s at hs E2 hsb
    go_wp2
    go_ret2
    exact ⟨_,retT E2.out.symm,by rw [E1.out];exact row_lit w _ (Nat.le_refl _),k_alloc (Below.refl _ _) _⟩
   | some p =>
    go_enter Tryz.func79,Tryz.ntmps79
    go_wp2_with fail
    refine (HS.out _ H.out).mono ?_
    rintro e w1 ⟨rfl,ex⟩
    cases ex
    generalize ([]:List Int).sum=s at hs E2 hsb
    go_wp2
    go_ret2
    exact ⟨_,retT E2.out.symm,by rw [E1.out];exact row_lit w _ (Nat.le_refl _),k_alloc (Below.refl _ _) _⟩
 ·obtain ⟨e1,e2⟩:=upTo_share hok hs
  have E1:=Hid.intro e1
  have E2:=Hid.intro e2
  have HSh:=Hid.intro (fun W=>specl4Share t (.slice a l.length cap) l hok W)
  clear e1 e2 hw h
  go_enter Tryz.func79,Tryz.ntmps79
  go_wp2_with fail
  refine (HS.out _ H.out).mono ?_
  rintro e w1 ⟨rfl,ex⟩
  cases ex
  generalize l.sum=s at hs hsb
  go_wp2_with fail
  refine (HSh.out _ H.out).mono ?_
  rintro e w2 ⟨x,rfl,hr,hb⟩
  have R:=Hid.intro (And.intro hr hb)
  clear hr hb
  go_wp2
  go_ret2
  exact ⟨x,retT E2.out.symm,by rw [E1.out];exact R.out.1,R.out.2⟩
end Go.Proofs.YtcbibdhlkdcmiafGreat
namespace Go.Proofs.YtcbibdhlkdcmiafGreat
open Go.RowKit

theorem joinTo_len (ss:List ByteArray):∀ k,k≤ss.length→(joinTo ss k).size=lnTo ss k+(k - 1)
 | 0,_=>by simp [joinTo,lnTo];rfl
 | k+1,h=>by
  have ih:=joinTo_len ss k (by omega)
  have hs:=lnTo_succ (ss:=ss) (k:=k) (by omega)
  rw [joinTo]
  split
  ·rename_i h0
   subst h0
   have:lnTo ss 0=0:=by simp [lnTo]
   omega
  ·rw [ByteArray.size_append,ByteArray.size_append]
   have:(ByteArray.mk #[32]).size=1:=rfl
   omega
end Go.Proofs.YtcbibdhlkdcmiafGreat
namespace Go.Proofs.YtcbibdhlkdcmiafGreat
open Go.RowKit

abbrev RCell:=Nat × Nat × Int
def rowStep (up:List Int) (h:Int) (c:RCell):Int:=if c.1+c.2.1=up.length+1 then max h (c.2.2 - (up.sum - sumTo up c.1)) else h
def rowH (up:List Int) (cs:List RCell):Int:=cs.foldl (rowStep up) 0
def rowsL (cs:List RCell):Nat→List Int
 | 0=>[]
 | k+1=>rowsL cs k ++ [rowH (rowsL cs k) cs]

end Go.Proofs.YtcbibdhlkdcmiafGreat
namespace Go.Proofs.YtcbibdhlkdcmiafGreat
open Go.RowKit

/-- a cell's rows as columns -/
def hgtG (x:GC):GC:=⟨0,x.row,0,x.rows,0⟩
/-- how high a cell is -/
def highV (l:List Int) (x:GC):Int:=cellV l 0 (hgtG x)
end Go.Proofs.YtcbibdhlkdcmiafGreat
namespace Go.Proofs.YtcbibdhlkdcmiafGreat
open Go.RowKit

theorem abcOk:txtOkB ⟨#[97,98,32,99]⟩=true:=by decide +kernel
theorem pwOk_any (w:World):Calls Tryz.prog 12 #[] w fun e w'=>e=.returned (.bool true)∧w'=w:=by
 go_enter Tryz.func12,Tryz.ntmps12
 go_wp2_with fail
 refine (implTxtOk _ _ (by unfold maxLen;decide)).mono ?_
 rw [abcOk]
 rintro e w1 ⟨rfl,rfl⟩
 go_wp2
 go_ret
 exact ⟨rfl,rfl⟩
end Go.Proofs.YtcbibdhlkdcmiafGreat
namespace Go.Proofs.YtcbibdhlkdcmiafGreat
open Go.RowKit

theorem strCells_app (a b:ByteArray):Lib.strCells (a ++ b)=Lib.strCells a ++ Lib.strCells b:=by
 unfold Lib.strCells
 rw [Joins.data_append,List.map_append]
theorem strCells_blank:Lib.strCells ⟨#[32]⟩=[.int .u8 32]:=rfl
theorem ofList (s:ByteArray):(⟨s.data.toList.toArray⟩:ByteArray)=s:=by cases s;simp
theorem newBld (w:World):Lib.IsBuilderF 93 5 w.heap.size w.heap.size (Lib.strCells ⟨#[]⟩) (w.alloc (.cells #[.pointer none,.slice none 0 0] 93)) :=
 Or.inl ⟨Nat.le_refl _,.slice none 0 0,newestB _ _,World.ownsRowF_of (World.ownsRow_nil _ _ _ _),by simp [Value.ownBlock]⟩

set_option maxRecDepth 100000 in
set_option maxHeartbeats 1000000 in
theorem implTxtJoin (v:Value) (ss:List ByteArray) (hn:totS ss≤1048576) (w:World) {z:Nat} (h:StrsAt w z v ss) :
  Calls Tryz.prog 30 #[v] w fun e w'=>e=.returned (.string (joinTo ss ss.length))∧Below w.heap.size w w':=by
 obtain ⟨a,cap,rfl,hlen⟩:=At.form h
 unfold maxLen at hlen
 have H:=Hid.intro h
 clear h
 go_enter Tryz.func30,Tryz.ntmps30
 go_wp2_with fail
 go_loopw [4,5,8] (fun _ _ i W=>∃ k:Nat,k≤ss.length∧i=.int .i64 k∧Hid (Lib.IsBuilderF 93 5 w.heap.size w.heap.size (Lib.strCells (joinTo ss k)) W)∧Hid (Below w.heap.size w W)) (fun _ _ i _=>ss.length - (intOf i).toNat)
 case atStart=>exact ⟨0,Nat.zero_le _,rfl,newBld w,k_alloc (Below.refl _ _) _⟩
 case round =>
  obtain ⟨k,hk,rfl,HI,HB⟩:=hrel
  have hwz:=HB.out.size
  by_cases hlt:k < ss.length
  ·obtain ⟨b,off,cap',e',hc1,hc2,hbl,hx,hs⟩:=At.get (H.out.kept HB.out) hlt
   rw [Nat.mul_one] at hx
   simp only [Value.slice.injEq,true_and] at e'
   obtain ⟨rfl,rfl⟩:=e'
   unfold maxLen at hc2
   have hj:=joinTo_size ss k (by omega)
   have hls:=lnTo_succ hlt
   have hll:=lnTo_le ss (k+1)
   have hxs:(ss.getD k dS).size≤1048576:=by unfold totS at hn;omega
   have hys:(joinTo ss k).size≤2097152:=by unfold totS at hn;omega
   clear hj hls hll hs
   by_cases hk0:k=0
   ·subst hk0
    rw [Nat.add_zero] at hx
    have HJ:Hid (Lib.strCells (joinTo ss (0+1))=Lib.strCells (joinTo ss 0) ++ Lib.strCells (ss.getD 0 dS)):=Hid.intro (by simp [joinTo,Lib.strCells])
    generalize ss.getD 0 dS=x at hx HJ hxs
    generalize joinTo ss 0=y at HI HJ hys
    go_wp2_with fail
    refine (writeString w.heap.size w.heap.size (Lib.strCells y) x _ HI.out (by rw [Lib.strCells_length];omega) hwz).mono ?_
    rintro e w1 ⟨rfl,h1,hb1,_⟩
    have HI1:Hid (Lib.IsBuilderF 93 5 w.heap.size w.heap.size (Lib.strCells (joinTo ss (0+1))) w1):=Hid.intro (by rw [HJ.out];exact Or.inr h1)
    have K1:=Hid.intro (HB.out.trans hb1)
    clear h1 hb1
    go_wp2
    go_roundw
    case rel=>exact ⟨0+1,by omega,by go_num,HI1,K1⟩
    case measure=>simp [intOf];omega
   ·have hp:(0:Int) < (k:Int):=by omega
    have HJ:Hid (Lib.strCells (joinTo ss (k+1))=Lib.strCells (joinTo ss k) ++ [.int .u8 32] ++ Lib.strCells (ss.getD k dS)):=Hid.intro (by rw [joinTo,if_neg hk0,strCells_app,strCells_app,strCells_blank])
    generalize ss.getD k dS=x at hx HJ hxs
    generalize joinTo ss k=y at HI HJ hys
    go_wp2_with fail
    refine (writeByte w.heap.size w.heap.size (Lib.strCells y) 32 _ HI.out (by rw [Lib.strCells_length];omega) hwz).mono ?_
    rintro e w1 ⟨rfl,h1,hb1,_⟩
    have K1:=Hid.intro (HB.out.trans hb1)
    have hwz1:=K1.out.size
    have H1:=Hid.intro h1
    clear h1 hb1
    go_wp2_with fail
    refine (writeString w.heap.size w.heap.size (Lib.strCells y ++ [.int .u8 32]) x _ (Or.inr H1.out) (by rw [List.length_append,Lib.strCells_length];simp;omega) hwz1).mono ?_
    rintro e w2 ⟨rfl,h2,hb2,_⟩
    have HI2:Hid (Lib.IsBuilderF 93 5 w.heap.size w.heap.size (Lib.strCells (joinTo ss (k+1))) w2):=Hid.intro (by rw [HJ.out];exact Or.inr h2)
    have K2:=Hid.intro (K1.out.trans hb2)
    clear h2 hb2
    go_wp2
    go_roundw
    case rel=>exact ⟨k+1,by omega,by go_num,HI2,K2⟩
    case measure=>simp [intOf];omega
  ·obtain rfl:k=ss.length:=by omega
   generalize hy:joinTo ss ss.length=y at HI
   have HY:=Hid.intro hy
   clear hy
   go_wp2_with fail
   refine (Tryz.Builder_String_any_k w.heap.size w.heap.size y.data.toList _ HI.out hwz).mono ?_
   rw [ofList]
   rintro e w1 ⟨rfl,_,hb1,_⟩
   have K1:=Hid.intro (HB.out.trans hb1)
   clear hb1
   go_wp2
   go_ret
   exact ⟨by rw [HY.out];rfl,K1.out⟩
end Go.Proofs.YtcbibdhlkdcmiafGreat
namespace Go.Proofs.YtcbibdhlkdcmiafGreat
open Go.RowKit

theorem wd3 (k:Int) (h0:0≤k) (h1:k < 3):∃ v:Int,(-1≤v∧v≤301)∧(#[Value.int .i64 (-1),.int .i64 301,.int .i64 300]:Array Value)[k.toNat]?=some (.int .i64 v):=by
 rcases (by omega:k=0∨k=1∨k=2) with rfl | rfl | rfl
 ·exact ⟨-1,by omega,rfl⟩
 ·exact ⟨301,by omega,rfl⟩
 ·exact ⟨300,by omega,rfl⟩
theorem wd8 (x k:Int) (hx:0≤x∧x < 100) (h0:0≤k) (h1:k < 8):∃ v:Int,(-1≤v∧v≤301)∧(#[Value.int .i64 0,.int .i64 10,.int .i64 25,.int .i64 40,.int .i64 60,.int .i64 80,.int .i64 120,.int .i64 x]:Array Value)[k.toNat]?=some (.int .i64 v):=by
 rcases (by omega:k=0∨k=1∨k=2∨k=3∨k=4∨k=5∨k=6∨k=7) with rfl | rfl | rfl | rfl | rfl | rfl | rfl | rfl
 ·exact ⟨0,by omega,rfl⟩
 ·exact ⟨10,by omega,rfl⟩
 ·exact ⟨25,by omega,rfl⟩
 ·exact ⟨40,by omega,rfl⟩
 ·exact ⟨60,by omega,rfl⟩
 ·exact ⟨80,by omega,rfl⟩
 ·exact ⟨120,by omega,rfl⟩
 ·exact ⟨x,by omega,rfl⟩
set_option maxRecDepth 100000 in
set_option maxHeartbeats 1000000 in
theorem l20Width_any (r B:Nat) (w:World) (h:Rd w r B) (hB:B≤900000) :
  Calls Tryz.prog 70 #[.pointer (some ⟨r,0,none⟩),.int .i64 16] w fun e w'=>∃ x:Int,e=.returned (.int .i64 x)∧(-1≤x∧x≤301)∧Rd w' r (B+3)∧Bk r w w':=by
 have hlt:=h.lt
 have HR:Hid (Rd w r B):=h
 clear h
 go_enter Tryz.func70,Tryz.ntmps70
 go_wp2_with fail
 refine (pick_any r B _ _ HR.out (by omega)).mono ?_
 rintro e w1 ⟨k1,rfl,hk1,hR1,hb1⟩
 have hz1:=hb1.size
 by_cases h0:k1=0
 ·subst h0
  clear hk1
  have A1:=newest w1 (.cells #[.int .i64 (-1),.int .i64 301,.int .i64 300] 3)
  go_wp2_with fail
  refine (pick_any r (B+1) _ _ (hR1.alloc _) (by omega)).mono ?_
  rintro e w2 ⟨k2,rfl,hk2,hR2,hb2⟩
  obtain ⟨ka,kb⟩:=hk2 (by omega)
  obtain ⟨v,hv,hvl⟩:=wd3 k2 ka kb
  have A2:=(hb2.block w1.heap.size (by simp) (by omega)).trans A1
  have hc:w2.cell? ⟨w1.heap.size,k2.toNat,none⟩=some (.int .i64 v):=(cellB A2).trans hvl
  have HK:=Hid.intro ((hb1.trans (Bk.alloc (Bk.refl _ _) _)).trans hb2)
  have HRr:=Hid.intro (hR2.mono (show B+1+1≤B+3 by omega))
  clear A1 A2 hb1 hb2 hR1 hR2 hvl hk2
  go_wp2
  go_ret
  exact ⟨v,rfl,hv,HRr.out,HK.out⟩
 ·have hne:(k1 == 0)=false:=beq_eq_false_iff_ne.2 h0
  clear h0 hk1
  go_wp2_with fail
  refine (pick_any r (B+1) _ _ hR1 (by omega)).mono ?_
  rintro e w2 ⟨x,rfl,hx,hR2,hb2⟩
  have hxb:=hx (by omega)
  have hz2:=hb2.size
  have A1:=newest w2 (.cells #[.int .i64 0,.int .i64 10,.int .i64 25,.int .i64 40,.int .i64 60,.int .i64 80,.int .i64 120,.int .i64 x] 3)
  go_wp2_with fail
  refine (pick_any r (B+2) _ _ (hR2.alloc _) (by omega)).mono ?_
  rintro e w3 ⟨k3,rfl,hk3,hR3,hb3⟩
  obtain ⟨ka,kb⟩:=hk3 (by omega)
  obtain ⟨v,hv,hvl⟩:=wd8 x k3 hxb ka kb
  have A2:=(hb3.block w2.heap.size (by simp) (by omega)).trans A1
  have hc:w3.cell? ⟨w2.heap.size,k3.toNat,none⟩=some (.int .i64 v):=(cellB A2).trans hvl
  have HK:=Hid.intro (((hb1.trans hb2).trans (Bk.alloc (Bk.refl _ _) _)).trans hb3)
  have HRr:=Hid.intro (hR3.mono (show B+2+1≤B+3 by omega))
  clear A1 A2 hb1 hb2 hb3 hR1 hR2 hR3 hvl hk3 hx
  go_wp2
  go_ret
  exact ⟨v,rfl,hv,HRr.out,HK.out⟩
end Go.Proofs.YtcbibdhlkdcmiafGreat
