/-
  PROVED HERE: columns, however wide a table may be, are small, no less wide than at least, and no cell is less wide than its longest word. Also: how wide a table is, columns and what stands between: facts on numbers. Also: the program's HgtLines at a drawn table and any width: the lines of each cell, in memory of their own; nothing that was in memory is turned.
-/
import Derived.Test.YtcbibdhlkdcmiafGreatB36
import Derived.Test.YtcbibdhlkdcmiafGreatB34
import Derived.Test.YtcbibdhlkdcmiafGreatB38
import Derived.Test.YtcbibdhlkdcmiafGreatB24
import Derived.Test.YtcbibdhlkdcmiafGreatB35
import Derived.Test.YtcbibdhlkdcmiafGreatB37
import Derived.Test.YtcbibdhlkdcmiafGreatB23
import Derived.Test.YtcbibdhlkdcmiafGreatB12
import Derived.Test.YtcbibdhlkdcmiafGreatB11
import Derived.Deep.DeepCutAuto
import Derived.Deep.RegionWith
import Derived.Deep.QuietTactic
import Derived.BigQuiet
namespace Go.Proofs.YtcbibdhlkdcmiafGreat
open Go.RowKit

theorem wid_ge {t:T} (hD:Drawn t) (hok:tblB t=true) {width:Int} (hw:0≤width∧width≤300):LeL (leastL t) (widL t width):=by
 obtain ⟨h1,_,h3⟩:=wid_facts hD hok hw
 exact ⟨by rw [leastL_len,h1],fun i hi=>(h3 i (by rw [leastL_len] at hi;exact hi)).1⟩
theorem wid_up {t:T} (hD:Drawn t) (hok:tblB t=true) {width:Int} (hw:0≤width∧width≤300):UpB (widL t width) 5000:=by
 obtain ⟨h1,h2,h3⟩:=wid_facts hD hok hw
 have hup:=leastL_up hD
 have hll:=leastL_len t
 obtain ⟨hC1,hC88,_,_,_,_⟩:=acr_least hD hok
 have hg:0≤t.gap∧t.gap≤3:=by
  simp only [tblB,inB,Bool.and_eq_true,decide_eq_true_eq] at hok
  exact hok.2.2.1
 have hgg:0≤t.gap * ((colN t:Int) - 1):=Int.mul_nonneg hg.1 (by omega)
 have hpos:∀ i,i < (widL t width).length→0≤(widL t width).getD i 0:=fun i hi=>by
  have a:=h3 i (by omega)
  have b:=hup i (by omega)
  omega
 intro i hi
 refine ⟨hpos i hi,?_⟩
 split at h2
 ·have hs:(widL t width).sum=(leastL t).sum:=by omega
  by_cases hlt:(leastL t).getD i 0 < (widL t width).getD i 0
  ·have:=sum_lt (a:=leastL t) (b:=widL t width) (by omega) (fun j hj=>(h3 j (by omega)).1) i (by omega) hlt
   omega
  ·have:=hup i (by omega)
   omega
 ·have:=sum_ge hpos hi
  omega
theorem wid_cell {t:T} (hD:Drawn t) (hok:tblB t=true) {width:Int} (hw:0≤width∧width≤300) {C:Nat} (hgc:(gOf t).cols=C) {k:Nat} (hk:k < (gOf t).cells.length) (hcel:Cel t C ((gOf t).cells.getD k dG)):¬ cellV (widL t width) t.gap ((gOf t).cells.getD k dG) < ((leastOf (wordsW (textOf t ((gOf t).cells.getD k dG))):Nat):Int):=by
 have h1:=(wid_facts hD hok hw).1
 have hCN:=colN_of hgc
 have hup:=wid_up hD hok hw
 rw [cellV_has hcel (fun i hi=>by have:=hup i hi;omega) (by omega)]
 have h2:=hasV_le hcel (wid_ge hD hok hw) (by rw [leastL_len];exact hCN) t.gap
 have h3:=least_has hD hk
 exact Int.not_lt.2 (Int.le_trans h3 h2)
end Go.Proofs.YtcbibdhlkdcmiafGreat
namespace Go.Proofs.YtcbibdhlkdcmiafGreat
open Go.RowKit

/-- how wide a table is -/
def tabV (t:T) (width:Int):Int:=acrV (widT t width) t.gap
theorem acr_wid {t:T} (hD:Drawn t) (hok:tblB t=true) {width:Int} (hw:0≤width∧width≤300) :
  widT t width=widL t width∧(widL t width).length=colN t∧tabV t width=(widL t width).sum+t.gap * ((colN t:Int) - 1)∧(widL t width).all wtB=true∧0≤(widL t width).sum∧(widL t width).sum≤1000000∧0≤t.gap * ((colN t:Int) - 1)∧t.gap * ((colN t:Int) - 1)≤1000 ∧
  tabV t width=(if width < acrV (leastL t) t.gap∨allFix t=true then acrV (leastL t) t.gap else width):=by
 obtain ⟨hC1,hC2,ea,_,_,_⟩:=acr_least hD hok
 obtain ⟨f1,f2,_⟩:=wid_facts hD hok hw
 have hup:=wid_up hD hok hw
 have hall:(widL t width).all wtB=true:=all_wt (fun i hi=>by have:=hup i hi;omega)
 have hs:=sum_bound hall
 have hsb:=sum_upB (l:=widL t width) (B:=5000) (fun x hx=>hup.mem hx)
 have hg:0≤t.gap∧t.gap≤3:=by
  simp only [tblB,inB,Bool.and_eq_true,decide_eq_true_eq] at hok
  exact hok.2.2.1
 have hg1:0≤t.gap * ((colN t:Int) - 1):=Int.mul_nonneg hg.1 (by omega)
 have hg2:t.gap * ((colN t:Int) - 1)≤3 * 87:=Int.mul_le_mul hg.2 (by omega) (by omega) (by omega)
 have e0:widT t width=widL t width:=by unfold widT;rw [if_pos (by rw [hok,inB_true hw.1 hw.2];rfl)]
 have e1:tabV t width=(widL t width).sum+t.gap * ((colN t:Int) - 1):=by
  unfold tabV
  rw [e0,acrV_cons (by omega),f1,W_small (by omega)]
 refine ⟨e0,f1,e1,hall,hs.1,by omega,hg1,by omega,?_⟩
 rw [e1,f2,ea]
end Go.Proofs.YtcbibdhlkdcmiafGreat
namespace Go.Proofs.YtcbibdhlkdcmiafGreat
open Go.RowKit Go.BigFrame

structure HlJ (w W1 W3:World) (BB:Nat) (ac ar ag:Option Addr) (cc cr cg:Nat) (t:T) (x:GC) (U:Value) (us:List Value) (ls:List (List ByteArray)) (lns:List ByteArray) (s:ByteArray) (q:Int) (va:Value) (k tb gb cb b off:Nat) (L:Nat→Bool) (W:World) (v6 v24 v25 v26 v27 v28 v29 v30 v31 v32 v33 v34 v35:Value):Prop where
 f0:L 0=true→v24=U
 f1:L 1=true→v25=.agg #[.slice ac t.cols.length cc,.int .i64 t.head,.int .i64 t.foot,.slice ar t.rows.length cr,.int .i64 t.gap]
 f2:L 2=true→v26=.agg #[.int .i64 x.row,.int .i64 x.col,.int .i64 x.rows,.int .i64 x.cols,.int .i64 x.ins]
 f3:L 3=true→v27=.string s
 f4:L 4=true→v28=va
 f5:L 5=true→v29=.pointer (some ⟨tb,4,none⟩)
 f6:L 6=true→v30=.int .i64 t.gap
 f7:L 7=true→v31=.agg #[.int .i64 x.row,.int .i64 x.col,.int .i64 x.rows,.int .i64 x.cols,.int .i64 x.ins]
 f8:L 8=true→v32=.int .i64 q
 f9:L 9=true→L 11=false→RowS W BB v33 lns
 f10:L 10=true→∃ g,v34=.slice (some ⟨g,0,none⟩) 1 1∧(L 11=false→W.cell? ⟨g,0,none⟩=some v33)
 fA:L 12=true→v6=v35
 nA:L 12=false→v6=U
 b4:L 11=false→Below W3.heap.size W3 W
 bel:Below W1.heap.size W1 W
 ownA:L 11=true→W.ownsRow BB 51 1 v35 (us ++ [v33]).length (us ++ [v33])∧RowSs W BB (us ++ [v33]) (ls ++ [lns])
theorem field_cells (a b c:Value) (W:World):(Instr.field 46 (.agg #[a,b,c]) 2).run Tryz.prog W=.ok c W:=by kernel_rfl
set_option maxRecDepth 100000 in
set_option maxHeartbeats 4000000 in
theorem implHgtLines (ac ar:Option Addr) (cc cr:Nat) (t:T) (hD:Drawn t) (width:Int) (w:World) {z:Nat} (hc:ColsAt w z (.slice ac t.cols.length cc) t.cols) (hr:RowsAt w z (.slice ar t.rows.length cr) t.rows) :
  Calls Tryz.prog 23 #[.agg #[.slice ac t.cols.length cc,.int .i64 t.head,.int .i64 t.foot,.slice ar t.rows.length cr,.int .i64 t.gap],.int .i64 width] w fun e w'=>∃ v,e=.returned v∧LlsAt w' w.heap.size v (linesT t width)∧Below w.heap.size w w':=by
 have hmx:Tryz.prog.follows .mixedOrders=true:=by kernel_rfl
 have hfld:=field_cells
 obtain ⟨i0,hi0,hz0,hz1,hz2⟩:=info_parts infoSs
 have HK0:=Hid.intro (k_alloc (Below.refl w.heap.size w) (.cells #[.slice ac t.cols.length cc,.int .i64 t.head,.int .i64 t.foot,.slice ar t.rows.length cr,.int .i64 t.gap] 26))
 have HX0:=Hid.intro (newestB w (.cells #[.slice ac t.cols.length cc,.int .i64 t.head,.int .i64 t.foot,.slice ar t.rows.length cr,.int .i64 t.gap] 26))
 have HT0:Hid (TA w z ac ar cc cr t):=⟨hc,hr⟩
 have hs0:(w.alloc (.cells #[.slice ac t.cols.length cc,.int .i64 t.head,.int .i64 t.foot,.slice ar t.rows.length cr,.int .i64 t.gap] 26)).heap.size=w.heap.size+1:=by simp
 clear hc hr
 go_enter Tryz.func23,Tryz.ntmps23
 go_upto_region 1 with fail
 generalize w.alloc (.cells #[.slice ac t.cols.length cc,.int .i64 t.head,.int .i64 t.foot,.slice ar t.rows.length cr,.int .i64 t.gap] 26)=W0 at HK0 HX0 hs0 ⊢
 obtain ⟨b0,b1,b2,b3,b4⟩:=fiveO HX0.out
 have KM:=Hid.intro (implmayBeWide ac ar cc cr t width _ (HT0.out.kept HK0.out).1 (HT0.out.kept HK0.out).2)
 cases hmay:(tblB t && inB width 0 300) with
 | false =>
  have HW:Hid (linesT t width=[]):=by rw [Hid,linesT,if_neg (by rw [hmay];simp)]
  rw [hmay] at KM
  clear hmay
  go_wp2_with fail
  refine KM.out.mono ?_
  rintro e w2 ⟨rfl,hb2⟩
  have HK2:=Hid.intro (k_trans HK0.out hb2)
  clear hb2 KM b0 b1 b2 b3 b4
  go_wp2
  go_ret
  exact ⟨_,rfl,by rw [HW.out];exact ⟨none,0,rfl,Nat.le_refl _,Nat.zero_le _,fun i hi=>absurd hi (Nat.not_lt_zero _)⟩,HK2.out⟩
 | true =>
  have HW:Hid (linesT t width=linesL t (widL t width) (gOf t).cells):=by rw [Hid,linesT,if_pos hmay]
  rw [hmay] at KM
  have HWT:Hid (widT t width=widL t width):=by rw [Hid,widT,if_pos hmay]
  rw [Bool.and_eq_true] at hmay
  obtain ⟨htk,hin⟩:=hmay
  have hw:0≤width∧width≤300:=by simpa [inB] using hin
  obtain ⟨_,hlw,_⟩:=acr_wid hD htk hw
  obtain ⟨_,hC88,_⟩:=acr_least hD htk
  obtain ⟨h40,C,hgc,hC88',hcel⟩:=cel_of hD
  have HCel:=Hid.intro hcel
  have HLw:=Hid.intro hlw
  have hl1:(widL t width).length≤1048576:=by rw [hlw];omega
  have KC:=Hid.intro (fun W (h:TA W z ac ar cc cr t)=>implWidCols ac ar cc cr t hD width W h.1 h.2)
  have KG:=Hid.intro (fun W (h:TA W z ac ar cc cr t)=>implGrdOf ac ar cc cr t hD W h.1 h.2)
  rw [HWT.out] at KC
  generalize widL t width=l at KC HW HLw hl1
  have HGk:=Hid.intro (gOf_gok hD)
  clear hlw hcel hgc hD htk hin hw hC88' HWT
  go_wp2_with fail
  refine KM.out.mono ?_
  rintro e w2 ⟨rfl,hb2⟩
  have HX2:=Hid.intro ((hb2.block w.heap.size (by omega)).trans HX0.out)
  have HK2:=Hid.intro (k_trans HK0.out hb2)
  have hz2':w.heap.size < w2.heap.size:=by have:=hb2.size;omega
  clear hb2 KM b0 b1 b2 b3 b4 HX0 HK0
  obtain ⟨b0,b1,b2,b3,b4⟩:=fiveO HX2.out
  go_wp2_with fail
  refine (KC.out _ (HT0.out.kept HK2.out)).mono ?_
  rintro e w3 ⟨v3,rfl,hR3,hb3⟩
  obtain ⟨a3,c3,rfl⟩:=hR3.form
  have HI3:=Hid.intro hR3.at
  rw [HLw.out] at HI3
  have HX3:=Hid.intro ((hb3.block w.heap.size hz2').trans HX2.out)
  have HK3:=Hid.intro (k_trans HK2.out hb3)
  have hz3:w.heap.size < w3.heap.size:=by have:=hb3.size;omega
  clear hb3 hR3 b0 b1 b2 b3 b4 HX2 HK2
  rw [HLw.out]
  obtain ⟨b0,b1,b2,b3,b4⟩:=fiveO HX3.out
  go_wp2_with fail
  refine (KG.out _ (HT0.out.kept HK3.out)).mono ?_
  rintro e W1 ⟨vg,rfl,hO4,hb4⟩
  obtain ⟨ag,cg,rfl⟩:=own_slice hO4
  have HG1:=Hid.intro (hO4.at HGk.out)
  have HX1:=Hid.intro ((hb4.block w.heap.size hz3).trans HX3.out)
  have HK1:=Hid.intro (k_trans HK3.out hb4)
  have HI1:=Hid.intro (HI3.out.kept hb4)
  have hz1':w.heap.size < W1.heap.size:=by have:=hb4.size;omega
  have HLe:=Hid.intro (linesL_len t l (gOf t).cells)
  have HLn:=Hid.intro (fun k (h:k < (gOf t).cells.length)=>linesL_next t l h)
  have HLs:=Hid.intro (linesL_size t l (gOf t).cells)
  clear hb4 hO4 b0 b1 b2 b3 b4 HX3 HK3 HI3
  go_wp2_with fail
  go_loopw [6,20] (fun o i W=>∃ (k:Nat) (us:List Value),i=.int .i64 k∧k≤(gOf t).cells.length∧Hid (W.ownsRow W1.heap.size 51 1 o us.length us)∧Hid (RowSs W W1.heap.size us ((linesL t l (gOf t).cells).take k))∧Hid (Below W1.heap.size W1 W)) (fun _ i _=>(gOf t).cells.length - (intOf i).toNat)
  case atStart=>exact ⟨0,[],rfl,Nat.zero_le _,World.ownsRow_nil _ _ _ _,by rw [List.take_zero];exact RowSs.nil _ _,Below.refl _ _⟩
  case round =>
   obtain ⟨k,us,rfl,hk,HO,HRs,HBr⟩:=hrel
   by_cases hkl:k < (gOf t).cells.length
   case neg =>
    obtain rfl:k=(gOf t).cells.length:=by omega
    rw [← HLe.out,List.take_length] at HRs
    have HF:=Hid.intro (HRs.out.lls HO.out (z:=w.heap.size) (by omega) (by omega) HLs.out)
    have HK:=Hid.intro (HK1.out.trans (HBr.out.mono (by omega)))
    go_wp2
    go_ret
    exact ⟨_,rfl,by rw [HW.out];exact HF.out,HK.out⟩
   obtain ⟨b,off,cap',e',hc1,hc2,hbl,hx,hxo⟩:=At.get (HG1.out.kept HBr.out) hkl
   simp only [Value.slice.injEq,true_and] at e'
   obtain ⟨rfl,rfl⟩:=e'
   have HNx:=Hid.intro (HLn.out k hkl)
   have HCx:=Hid.intro (HCel.out k hkl)
   generalize (linesL t l (gOf t).cells).take k=ls at HRs HNx
   generalize (gOf t).cells.getD k dG=x at hx hxo HNx HCx
   obtain ⟨x0,x1,x2,x3,x4⟩:=hx
   unfold maxLen at hc2
   go_upto_region 8 with fail
   have HB4:=Hid.intro (k_alloc (Below.refl wr.heap.size wr) (.cells #[.int .i64 x.row,.int .i64 x.col,.int .i64 x.rows,.int .i64 x.cols,.int .i64 x.ins] 50))
   have HB1:=Hid.intro (k_trans HBr.out HB4.out)
   have HC4:=Hid.intro (newestB wr (.cells #[.int .i64 x.row,.int .i64 x.col,.int .i64 x.rows,.int .i64 x.cols,.int .i64 x.ins] 50))
   have hlc:wr.heap.size < (wr.alloc (.cells #[.int .i64 x.row,.int .i64 x.col,.int .i64 x.rows,.int .i64 x.cols,.int .i64 x.ins] 50)).heap.size:=by simp
   have HX:=Hid.intro ((HB1.out.block w.heap.size hz1').trans HX1.out)
   have hlt0:w.heap.size < (wr.alloc (.cells #[.int .i64 x.row,.int .i64 x.col,.int .i64 x.rows,.int .i64 x.cols,.int .i64 x.ins] 50)).heap.size:=(Array.getElem?_eq_some_iff.1 HX.out).1
   replace HO:=Hid.intro (ownsRow_keptS HO.out HB4.out)
   replace HRs:=Hid.intro (HRs.out.kept HB4.out)
   generalize wr.alloc (.cells #[.int .i64 x.row,.int .i64 x.col,.int .i64 x.rows,.int .i64 x.cols,.int .i64 x.ins] 50)=W3 at HB4 HB1 HC4 hlc HX hlt0 HO HRs ⊢
   generalize wr.heap.size=cb at HC4 hlc ⊢
   have hsz:(textOf t x).size≤maxLen:=text_size HCx.out HT0.out.2
   have KT:=Hid.intro (fun W (h:Below W3.heap.size W3 W)=>impltextOf ac ar cc cr t x HCx.out W (((HT0.out.2.kept HK1.out).kept HB1.out).kept h))
   have KW:=Hid.intro (fun W (h:Below W3.heap.size W3 W)=>implWidCell _ l hl1 t.gap x hxo W ((HI1.out.kept HB1.out).kept h))
   have KL:=Hid.intro (fun W=>implTxtLines (textOf t x) hsz (cellV l t.gap x) W)
   have HNy:Hid ((linesL t l (gOf t).cells).take (k+1)=ls ++ [lnOut (lnSt (cellV l t.gap x) (wordsW (textOf t x)))]):=HNx.out
   clear HNx hsz
   have HNx:=HNy
   clear HNy HCx hxo
   generalize lnOut (lnSt (cellV l t.gap x) (wordsW (textOf t x)))=lns at KL HNx
   generalize cellV l t.gap x=q at KW KL
   generalize textOf t x=s at KT KL
   have husl:us.length≤40:=by have h1:=HRs.out.1;have h2:=congrArg List.length HNx.out;rw [List.length_append,List.length_take,List.length_singleton] at h2;omega
   have HBs:Hid (∀ {m:Nat},W1.heap.size≤m→W1.heap.size≤m):=fun h=>h
   have HBs2:Hid (∀ {m:Nat},W1.heap.size≤m→W1.heap.size≤m):=fun h=>h
   clear HCel HLn HLs HLe x0 x1 x2 x3 x4 HBr HB4
   refine wp_region_inv2 (fun L act W=>∃ v6 v24 v25 v26 v27 v28 v29 v30 v31 v32 v33 v34 v35:Value,act=⟨#[.agg #[.slice ac t.cols.length cc,.int .i64 t.head,.int .i64 t.foot,.slice ar t.rows.length cr,.int .i64 t.gap],.int .i64 width,.pointer (some ⟨w.heap.size,0,none⟩),undef,.slice none 0 0,.slice a3 (colN t) c3,v6,undef,.pointer (some ⟨cb,0,none⟩),.agg #[.slice ac t.cols.length cc,.int .i64 t.head,.int .i64 t.foot,.slice ar t.rows.length cr,.int .i64 t.gap],.int .i64 width,.bool true,.bool false,.agg #[.slice ac t.cols.length cc,.int .i64 t.head,.int .i64 t.foot,.slice ar t.rows.length cr,.int .i64 t.gap],.int .i64 width,.slice a3 (colN t) c3,.agg #[.slice ac t.cols.length cc,.int .i64 t.head,.int .i64 t.foot,.slice ar t.rows.length cr,.int .i64 t.gap],.agg #[.int .i64 (gOf t).rows,.int .i64 (gOf t).cols,.slice (some ⟨b,off,none⟩) (gOf t).cells.length cg],.slice (some ⟨b,off,none⟩) (gOf t).cells.length cg,.int .i64 ((gOf t).cells.length:Int),.int .i64 (k:Int),.bool true,.pointer (some ⟨b,off+k * 5,none⟩),.agg #[.int .i64 x.row,.int .i64 x.col,.int .i64 x.rows,.int .i64 x.cols,.int .i64 x.ins],v24,v25,v26,v27,v28,v29,v30,v31,v32,v33,v34,v35,u36,undef],[]⟩∧HlJ w W1 W3 W1.heap.size ac ar (some ⟨b,off,none⟩) cc cr cg t x u6 us ls lns s q (.slice a3 (colN t) c3) k w.heap.size 0 cb b off L W v6 v24 v25 v26 v27 v28 v29 v30 v31 v32 v33 v34 v35) hmx (by kernel_rfl) ?hs ?hd ?h0
   case h0=>exact ⟨_,_,_,_,_,_,_,_,_,_,_,_,_,rfl,⟨(fun h=>by cases h),(fun h=>by cases h),(fun h=>by cases h),(fun h=>by cases h),(fun h=>by cases h),(fun h=>by cases h),(fun h=>by cases h),(fun h=>by cases h),(fun h=>by cases h),(fun h=>by cases h),(fun h=>by cases h),(fun h=>by cases h),(fun _=>rfl),(fun _=>k_drew (Below.refl _ _)),k_drew HB1.out,(fun h=>by cases h)⟩⟩
   case hd =>
    intro L act W hJ hall
    obtain ⟨v6,v24,v25,v26,v27,v28,v29,v30,v31,v32,v33,v34,v35,ha,J⟩:=hJ
    subst ha
    obtain rfl:=J.fA (hall 12 (by decide))
    obtain ⟨ho5,hr5⟩:=J.ownA (hall 11 (by decide))
    have HO5:=Hid.intro ho5
    have HR5:=Hid.intro hr5
    have HB5:=Hid.intro J.bel
    obtain ⟨g',cap'',rfl⟩:=Joins.ownsRow_form HO5.out (by simp)
    clear J hall ho5 hr5
    go_wp2
    go_roundw
    case rel=>exact ⟨k+1,_,by go_num,by omega,HO5,by rw [HNx.out];exact HR5,HB5⟩
    case measure=>simp [intOf];omega
   case hs =>
    intro L act W i o hJ hcl ho hLi haft K hK
    obtain ⟨v6,v24,v25,v26,v27,v28,v29,v30,v31,v32,v33,v34,v35,ha,J⟩:=hJ
    subst ha
    have hi':i < 13:=by
     have:=(Array.getElem?_eq_some_iff.1 ho).1
     simpa using this
    rcases (by omega:i=0∨i=1∨i=2∨i=3∨i=4∨i=5∨i=6∨i=7∨i=8∨i=9∨i=10∨i=11∨i=12) with rfl | rfl | rfl | rfl | rfl | rfl | rfl | rfl | rfl | rfl | rfl | rfl | rfl
    all_goals
     simp only [List.getElem?_toArray,List.getElem?_cons_zero,List.getElem?_cons_succ,Option.some.injEq] at ho
     subst ho
     clear hi'
    ·skip
     have hAp:L 11=false:=(hcl 11 0 (by kernel_rfl) hLi)
     have hAs:L 12=false:=(hcl 12 11 (by kernel_rfl) (hcl 11 0 (by kernel_rfl) hLi))
     have B4:=J.b4 hAp
     obtain rfl:=J.nA hAs
     go_simp
     exact hK _ _ ⟨_,_,_,_,_,_,_,_,_,_,_,_,_,rfl,⟨(fun _=>rfl),(fun h=>J.f1 (un h)),(fun h=>J.f2 (un h)),(fun h=>J.f3 (un h)),(fun h=>J.f4 (un h)),(fun h=>J.f5 (un h)),(fun h=>J.f6 (un h)),(fun h=>J.f7 (un h)),(fun h=>J.f8 (un h)),(fun h h2=>J.f9 (un h) (by rwa [upd_ne rfl] at h2)),(fun h=>by obtain ⟨g,e,c⟩:=J.f10 (un h);exact ⟨g,e,fun h2=>c (by rwa [upd_ne rfl] at h2)⟩),(fun h=>absurd (by rwa [upd_ne rfl] at h:L 12=true) (by rw [hAs];simp)),(fun h=>J.nA (un h)),(fun _=>B4),J.bel,(fun h=>absurd (by rwa [upd_ne rfl] at h:L 11=true) (by rw [hAp];simp))⟩⟩
    ·skip
     have hAp:L 11=false:=(hcl 11 10 (by kernel_rfl) (hcl 10 9 (by kernel_rfl) (hcl 9 3 (by kernel_rfl) (hcl 3 1 (by kernel_rfl) hLi))))
     have hAs:L 12=false:=(hcl 12 11 (by kernel_rfl) (hcl 11 10 (by kernel_rfl) (hcl 10 9 (by kernel_rfl) (hcl 9 3 (by kernel_rfl) (hcl 3 1 (by kernel_rfl) hLi)))))
     have B4:=J.b4 hAp
     obtain ⟨q0,q1,q2,q3,q4⟩:=fiveO ((B4.block _ hlt0).trans HX.out)
     have hl:=Nat.lt_of_lt_of_le hlt0 B4.size
     go_simp
     exact hK _ _ ⟨_,_,_,_,_,_,_,_,_,_,_,_,_,rfl,⟨(fun h=>J.f0 (un h)),(fun _=>rfl),(fun h=>J.f2 (un h)),(fun h=>J.f3 (un h)),(fun h=>J.f4 (un h)),(fun h=>J.f5 (un h)),(fun h=>J.f6 (un h)),(fun h=>J.f7 (un h)),(fun h=>J.f8 (un h)),(fun h h2=>J.f9 (un h) (by rwa [upd_ne rfl] at h2)),(fun h=>by obtain ⟨g,e,c⟩:=J.f10 (un h);exact ⟨g,e,fun h2=>c (by rwa [upd_ne rfl] at h2)⟩),(fun h=>absurd (by rwa [upd_ne rfl] at h:L 12=true) (by rw [hAs];simp)),(fun h=>J.nA (un h)),(fun _=>B4),J.bel,(fun h=>absurd (by rwa [upd_ne rfl] at h:L 11=true) (by rw [hAp];simp))⟩⟩
    ·skip
     have hAp:L 11=false:=(hcl 11 10 (by kernel_rfl) (hcl 10 9 (by kernel_rfl) (hcl 9 3 (by kernel_rfl) (hcl 3 2 (by kernel_rfl) hLi))))
     have hAs:L 12=false:=(hcl 12 11 (by kernel_rfl) (hcl 11 10 (by kernel_rfl) (hcl 10 9 (by kernel_rfl) (hcl 9 3 (by kernel_rfl) (hcl 3 2 (by kernel_rfl) hLi)))))
     have B4:=J.b4 hAp
     obtain ⟨q0,q1,q2,q3,q4⟩:=fiveO ((B4.block _ hlc).trans HC4.out)
     have hl:=Nat.lt_of_lt_of_le hlc B4.size
     go_simp
     exact hK _ _ ⟨_,_,_,_,_,_,_,_,_,_,_,_,_,rfl,⟨(fun h=>J.f0 (un h)),(fun h=>J.f1 (un h)),(fun _=>rfl),(fun h=>J.f3 (un h)),(fun h=>J.f4 (un h)),(fun h=>J.f5 (un h)),(fun h=>J.f6 (un h)),(fun h=>J.f7 (un h)),(fun h=>J.f8 (un h)),(fun h h2=>J.f9 (un h) (by rwa [upd_ne rfl] at h2)),(fun h=>by obtain ⟨g,e,c⟩:=J.f10 (un h);exact ⟨g,e,fun h2=>c (by rwa [upd_ne rfl] at h2)⟩),(fun h=>absurd (by rwa [upd_ne rfl] at h:L 12=true) (by rw [hAs];simp)),(fun h=>J.nA (un h)),(fun _=>B4),J.bel,(fun h=>absurd (by rwa [upd_ne rfl] at h:L 11=true) (by rw [hAp];simp))⟩⟩
    ·skip
     have hAp:L 11=false:=(hcl 11 10 (by kernel_rfl) (hcl 10 9 (by kernel_rfl) (hcl 9 3 (by kernel_rfl) hLi)))
     have hAs:L 12=false:=(hcl 12 11 (by kernel_rfl) (hcl 11 10 (by kernel_rfl) (hcl 10 9 (by kernel_rfl) (hcl 9 3 (by kernel_rfl) hLi))))
     have B4:=J.b4 hAp
     obtain rfl:=J.f1 (haft ⟨1,.data⟩ (by simp) rfl)
     obtain rfl:=J.f2 (haft ⟨2,.data⟩ (by simp) rfl)
     go_simp
     go_wp2_with (go_at_call 56;refine (KT.out W B4).mono ?_;rintro e WN ⟨rfl,_,hb⟩)
     exact ⟨_,_,_,_,_,_,_,_,_,_,_,_,_,rfl,⟨(fun h=>J.f0 (un h)),(fun h=>J.f1 (un h)),(fun h=>J.f2 (un h)),(fun _=>rfl),(fun h=>J.f4 (un h)),(fun h=>J.f5 (un h)),(fun h=>J.f6 (un h)),(fun h=>J.f7 (un h)),(fun h=>J.f8 (un h)),(fun h h2=>(J.f9 (un h) (by rwa [upd_ne rfl] at h2)).below hb (Nat.le_refl _)),(fun h=>by obtain ⟨g,e,c⟩:=J.f10 (un h);exact ⟨g,e,fun h2=>(hb.cell (World.block_lt_of_cell? _ _ (c (by rwa [upd_ne rfl] at h2)))).trans (c (by rwa [upd_ne rfl] at h2))⟩),(fun h=>absurd (by rwa [upd_ne rfl] at h:L 12=true) (by rw [hAs];simp)),(fun h=>J.nA (un h)),(fun _=>k_trans B4 hb),k_trans J.bel hb,(fun h=>absurd (by rwa [upd_ne rfl] at h:L 11=true) (by rw [hAp];simp))⟩⟩
    ·skip
     have hAp:L 11=false:=(hcl 11 10 (by kernel_rfl) (hcl 10 9 (by kernel_rfl) (hcl 9 8 (by kernel_rfl) (hcl 8 4 (by kernel_rfl) hLi))))
     have hAs:L 12=false:=(hcl 12 11 (by kernel_rfl) (hcl 11 10 (by kernel_rfl) (hcl 10 9 (by kernel_rfl) (hcl 9 8 (by kernel_rfl) (hcl 8 4 (by kernel_rfl) hLi)))))
     have B4:=J.b4 hAp
     go_simp
     exact hK _ _ ⟨_,_,_,_,_,_,_,_,_,_,_,_,_,rfl,⟨(fun h=>J.f0 (un h)),(fun h=>J.f1 (un h)),(fun h=>J.f2 (un h)),(fun h=>J.f3 (un h)),(fun _=>rfl),(fun h=>J.f5 (un h)),(fun h=>J.f6 (un h)),(fun h=>J.f7 (un h)),(fun h=>J.f8 (un h)),(fun h h2=>J.f9 (un h) (by rwa [upd_ne rfl] at h2)),(fun h=>by obtain ⟨g,e,c⟩:=J.f10 (un h);exact ⟨g,e,fun h2=>c (by rwa [upd_ne rfl] at h2)⟩),(fun h=>absurd (by rwa [upd_ne rfl] at h:L 12=true) (by rw [hAs];simp)),(fun h=>J.nA (un h)),(fun _=>B4),J.bel,(fun h=>absurd (by rwa [upd_ne rfl] at h:L 11=true) (by rw [hAp];simp))⟩⟩
    ·skip
     have hAp:L 11=false:=(hcl 11 10 (by kernel_rfl) (hcl 10 9 (by kernel_rfl) (hcl 9 8 (by kernel_rfl) (hcl 8 6 (by kernel_rfl) (hcl 6 5 (by kernel_rfl) hLi)))))
     have hAs:L 12=false:=(hcl 12 11 (by kernel_rfl) (hcl 11 10 (by kernel_rfl) (hcl 10 9 (by kernel_rfl) (hcl 9 8 (by kernel_rfl) (hcl 8 6 (by kernel_rfl) (hcl 6 5 (by kernel_rfl) hLi))))))
     have B4:=J.b4 hAp
     go_simp
     exact hK _ _ ⟨_,_,_,_,_,_,_,_,_,_,_,_,_,rfl,⟨(fun h=>J.f0 (un h)),(fun h=>J.f1 (un h)),(fun h=>J.f2 (un h)),(fun h=>J.f3 (un h)),(fun h=>J.f4 (un h)),(fun _=>rfl),(fun h=>J.f6 (un h)),(fun h=>J.f7 (un h)),(fun h=>J.f8 (un h)),(fun h h2=>J.f9 (un h) (by rwa [upd_ne rfl] at h2)),(fun h=>by obtain ⟨g,e,c⟩:=J.f10 (un h);exact ⟨g,e,fun h2=>c (by rwa [upd_ne rfl] at h2)⟩),(fun h=>absurd (by rwa [upd_ne rfl] at h:L 12=true) (by rw [hAs];simp)),(fun h=>J.nA (un h)),(fun _=>B4),J.bel,(fun h=>absurd (by rwa [upd_ne rfl] at h:L 11=true) (by rw [hAp];simp))⟩⟩
    ·skip
     have hAp:L 11=false:=(hcl 11 10 (by kernel_rfl) (hcl 10 9 (by kernel_rfl) (hcl 9 8 (by kernel_rfl) (hcl 8 6 (by kernel_rfl) hLi))))
     have hAs:L 12=false:=(hcl 12 11 (by kernel_rfl) (hcl 11 10 (by kernel_rfl) (hcl 10 9 (by kernel_rfl) (hcl 9 8 (by kernel_rfl) (hcl 8 6 (by kernel_rfl) hLi)))))
     have B4:=J.b4 hAp
     obtain ⟨q0,q1,q2,q3,q4⟩:=fiveO ((B4.block _ hlt0).trans HX.out)
     have hl:=Nat.lt_of_lt_of_le hlt0 B4.size
     obtain rfl:=J.f5 (haft ⟨5,.data⟩ (by simp) rfl)
     go_simp
     exact hK _ _ ⟨_,_,_,_,_,_,_,_,_,_,_,_,_,rfl,⟨(fun h=>J.f0 (un h)),(fun h=>J.f1 (un h)),(fun h=>J.f2 (un h)),(fun h=>J.f3 (un h)),(fun h=>J.f4 (un h)),(fun h=>J.f5 (un h)),(fun _=>rfl),(fun h=>J.f7 (un h)),(fun h=>J.f8 (un h)),(fun h h2=>J.f9 (un h) (by rwa [upd_ne rfl] at h2)),(fun h=>by obtain ⟨g,e,c⟩:=J.f10 (un h);exact ⟨g,e,fun h2=>c (by rwa [upd_ne rfl] at h2)⟩),(fun h=>absurd (by rwa [upd_ne rfl] at h:L 12=true) (by rw [hAs];simp)),(fun h=>J.nA (un h)),(fun _=>B4),J.bel,(fun h=>absurd (by rwa [upd_ne rfl] at h:L 11=true) (by rw [hAp];simp))⟩⟩
    ·skip
     have hAp:L 11=false:=(hcl 11 10 (by kernel_rfl) (hcl 10 9 (by kernel_rfl) (hcl 9 8 (by kernel_rfl) (hcl 8 7 (by kernel_rfl) hLi))))
     have hAs:L 12=false:=(hcl 12 11 (by kernel_rfl) (hcl 11 10 (by kernel_rfl) (hcl 10 9 (by kernel_rfl) (hcl 9 8 (by kernel_rfl) (hcl 8 7 (by kernel_rfl) hLi)))))
     have B4:=J.b4 hAp
     obtain ⟨q0,q1,q2,q3,q4⟩:=fiveO ((B4.block _ hlc).trans HC4.out)
     have hl:=Nat.lt_of_lt_of_le hlc B4.size
     go_simp
     exact hK _ _ ⟨_,_,_,_,_,_,_,_,_,_,_,_,_,rfl,⟨(fun h=>J.f0 (un h)),(fun h=>J.f1 (un h)),(fun h=>J.f2 (un h)),(fun h=>J.f3 (un h)),(fun h=>J.f4 (un h)),(fun h=>J.f5 (un h)),(fun h=>J.f6 (un h)),(fun _=>rfl),(fun h=>J.f8 (un h)),(fun h h2=>J.f9 (un h) (by rwa [upd_ne rfl] at h2)),(fun h=>by obtain ⟨g,e,c⟩:=J.f10 (un h);exact ⟨g,e,fun h2=>c (by rwa [upd_ne rfl] at h2)⟩),(fun h=>absurd (by rwa [upd_ne rfl] at h:L 12=true) (by rw [hAs];simp)),(fun h=>J.nA (un h)),(fun _=>B4),J.bel,(fun h=>absurd (by rwa [upd_ne rfl] at h:L 11=true) (by rw [hAp];simp))⟩⟩
    ·skip
     have hAp:L 11=false:=(hcl 11 10 (by kernel_rfl) (hcl 10 9 (by kernel_rfl) (hcl 9 8 (by kernel_rfl) hLi)))
     have hAs:L 12=false:=(hcl 12 11 (by kernel_rfl) (hcl 11 10 (by kernel_rfl) (hcl 10 9 (by kernel_rfl) (hcl 9 8 (by kernel_rfl) hLi))))
     have B4:=J.b4 hAp
     obtain rfl:=J.f4 (haft ⟨4,.data⟩ (by simp) rfl)
     obtain rfl:=J.f6 (haft ⟨6,.data⟩ (by simp) rfl)
     obtain rfl:=J.f7 (haft ⟨7,.data⟩ (by simp) rfl)
     go_simp
     go_wp2_with (go_at_call 32;refine (KW.out W B4).mono ?_;rintro e WN ⟨rfl,hb⟩)
     exact ⟨_,_,_,_,_,_,_,_,_,_,_,_,_,rfl,⟨(fun h=>J.f0 (un h)),(fun h=>J.f1 (un h)),(fun h=>J.f2 (un h)),(fun h=>J.f3 (un h)),(fun h=>J.f4 (un h)),(fun h=>J.f5 (un h)),(fun h=>J.f6 (un h)),(fun h=>J.f7 (un h)),(fun _=>rfl),(fun h h2=>(J.f9 (un h) (by rwa [upd_ne rfl] at h2)).below hb (Nat.le_refl _)),(fun h=>by obtain ⟨g,e,c⟩:=J.f10 (un h);exact ⟨g,e,fun h2=>(hb.cell (World.block_lt_of_cell? _ _ (c (by rwa [upd_ne rfl] at h2)))).trans (c (by rwa [upd_ne rfl] at h2))⟩),(fun h=>absurd (by rwa [upd_ne rfl] at h:L 12=true) (by rw [hAs];simp)),(fun h=>J.nA (un h)),(fun _=>k_trans B4 hb),k_trans J.bel hb,(fun h=>absurd (by rwa [upd_ne rfl] at h:L 11=true) (by rw [hAp];simp))⟩⟩
    ·skip
     have hAp:L 11=false:=(hcl 11 10 (by kernel_rfl) (hcl 10 9 (by kernel_rfl) hLi))
     have hAs:L 12=false:=(hcl 12 11 (by kernel_rfl) (hcl 11 10 (by kernel_rfl) (hcl 10 9 (by kernel_rfl) hLi)))
     have B4:=J.b4 hAp
     obtain rfl:=J.f3 (haft ⟨3,.data⟩ (by simp) rfl)
     obtain rfl:=J.f8 (haft ⟨8,.data⟩ (by simp) rfl)
     go_simp
     go_wp2_with (go_at_call 55;refine (KL.out W).mono ?_;rintro e WN ⟨vt,rfl,hR,hb⟩;have hR2:=(RowS.of_owns hR).base (B':=W1.heap.size) (HBs.out J.bel.size);clear hR)
     exact ⟨_,_,_,_,_,_,_,_,_,_,_,_,_,rfl,⟨(fun h=>J.f0 (un h)),(fun h=>J.f1 (un h)),(fun h=>J.f2 (un h)),(fun h=>J.f3 (un h)),(fun h=>J.f4 (un h)),(fun h=>J.f5 (un h)),(fun h=>J.f6 (un h)),(fun h=>J.f7 (un h)),(fun h=>J.f8 (un h)),(fun _ _=>hR2),(fun h=>by rw [upd_ne rfl,(hcl 10 9 (by kernel_rfl) hLi)] at h;cases h),(fun h=>absurd (by rwa [upd_ne rfl] at h:L 12=true) (by rw [hAs];simp)),(fun h=>J.nA (un h)),(fun _=>k_trans B4 hb),k_trans J.bel hb,(fun h=>absurd (by rwa [upd_ne rfl] at h:L 11=true) (by rw [hAp];simp))⟩⟩
    ·skip
     have hAp:L 11=false:=(hcl 11 10 (by kernel_rfl) hLi)
     have hAs:L 12=false:=(hcl 12 11 (by kernel_rfl) (hcl 11 10 (by kernel_rfl) hLi))
     have B4:=J.b4 hAp
     obtain ⟨a9,c9,rfl⟩:=(J.f9 (haft ⟨9,.data⟩ (by simp) rfl) hAp).form
     go_simp
     exact hK _ _ ⟨_,_,_,_,_,_,_,_,_,_,_,_,_,rfl,⟨(fun h=>J.f0 (un h)),(fun h=>J.f1 (un h)),(fun h=>J.f2 (un h)),(fun h=>J.f3 (un h)),(fun h=>J.f4 (un h)),(fun h=>J.f5 (un h)),(fun h=>J.f6 (un h)),(fun h=>J.f7 (un h)),(fun h=>J.f8 (un h)),(fun h h2=>(J.f9 (un h) (by rwa [upd_ne rfl] at h2)).below (k_alloc (Below.refl _ _) _) (Nat.le_refl _)),(fun _=>⟨_,rfl,fun _=>by simp⟩),(fun h=>absurd (by rwa [upd_ne rfl] at h:L 12=true) (by rw [hAs];simp)),(fun h=>J.nA (un h)),(fun _=>k_alloc B4 _),k_alloc J.bel _,(fun h=>absurd (by rwa [upd_ne rfl] at h:L 11=true) (by rw [hAp];simp))⟩⟩
    ·skip
     have hAp:L 11=false:=hLi
     have hAs:L 12=false:=(hcl 12 11 (by kernel_rfl) hLi)
     have B4:=J.b4 hAp
     obtain rfl:=J.f0 (haft ⟨0,.data⟩ (by simp) rfl)
     obtain ⟨g,rfl,hg⟩:=J.f10 (haft ⟨10,.data⟩ (by simp) rfl)
     have hO4:=ownsRow_keptS HO.out B4
     have hT4:=J.f9 (by cases hz:L 9 with | true=>rfl | false=>have:=hcl 10 9 (by kernel_rfl) hz;rw [(haft ⟨10,.data⟩ (by simp) rfl)] at this;cases this) hAp
     rw [if_pos (by rfl)]
     refine wp_append_own _ (.tmp 24) (.tmp 34) 41 rfl W1.heap.size 51 i0 (.slice none 0 0) 1 24 Tryz.underlying41 hi0 hz0 hz1 hz2 rfl (by decide) _ _ _ rfl hO4 ⟨g,0,none⟩ 1 1 [v33] rfl rfl ?c1 ?c2 ?c3 ?c4 ?c5 ?_
     case c1 =>
      intro i u hi
      match i,hi with
      | 0,hi=>simp at hi;subst hi;simpa [Addr.add] using hg hAp
     case c2=>intro u hu;simp at hu;subst hu;obtain ⟨a9,c9,rfl⟩:=hT4.form;rfl
     case c3=>unfold maxLen;omega
     case c4=>omega
     case c5=>exact HBs.out (J.bel.size)
     intro v' w5 hown' hgrow' _
     have hB5:Below W1.heap.size W1 w5:=J.bel.grown hgrow' J.bel.size (fun q hq=>HBs2.out (hO4.lt q hq).1)
     have hR5:=((HRs.out.kept B4).grown hO4 hgrow').next (hT4.grown hO4 hgrow')
     exact hK _ _ ⟨_,_,_,_,_,_,_,_,_,_,_,_,_,rfl,⟨(fun h=>J.f0 (un h)),(fun h=>J.f1 (un h)),(fun h=>J.f2 (un h)),(fun h=>J.f3 (un h)),(fun h=>J.f4 (un h)),(fun h=>J.f5 (un h)),(fun h=>J.f6 (un h)),(fun h=>J.f7 (un h)),(fun h=>J.f8 (un h)),(fun _ h2=>by rw [upd_self] at h2;cases h2),(fun _=>⟨g,rfl,fun h2=>by rw [upd_self] at h2;cases h2⟩),(fun h=>absurd (by rwa [upd_ne rfl] at h:L 12=true) (by rw [hAs];simp)),(fun h=>J.nA (un h)),(fun h=>by rw [upd_self] at h;cases h),hB5,(fun _=>⟨by rw [List.length_append];exact hown',hR5⟩)⟩⟩
    ·skip
     go_simp
     exact hK _ _ ⟨_,_,_,_,_,_,_,_,_,_,_,_,_,rfl,⟨(fun h=>J.f0 (un h)),(fun h=>J.f1 (un h)),(fun h=>J.f2 (un h)),(fun h=>J.f3 (un h)),(fun h=>J.f4 (un h)),(fun h=>J.f5 (un h)),(fun h=>J.f6 (un h)),(fun h=>J.f7 (un h)),(fun h=>J.f8 (un h)),(fun h h2=>J.f9 (un h) (by rwa [upd_ne rfl] at h2)),(fun h=>by obtain ⟨g,e,c⟩:=J.f10 (un h);exact ⟨g,e,fun h2=>c (by rwa [upd_ne rfl] at h2)⟩),(fun _=>rfl),(fun h=>by rw [upd_self] at h;cases h),(fun h=>J.b4 (un h)),J.bel,(fun h=>J.ownA (un h))⟩⟩
end Go.Proofs.YtcbibdhlkdcmiafGreat
