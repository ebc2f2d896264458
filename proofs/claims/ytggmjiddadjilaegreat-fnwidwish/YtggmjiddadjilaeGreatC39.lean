/-
  PROVED HERE: the program's HgtLines at a drawn table and any width: the lines of each cell, in memory of their own; nothing that was in memory is turned. Also: 2 more texts of the same proof.
-/
import Derived.Test.YtggmjiddadjilaeGreatC29
import Derived.Test.YtggmjiddadjilaeGreatC37
import Derived.Test.YtggmjiddadjilaeGreatC35
import Derived.Test.YtggmjiddadjilaeGreatC38
import Derived.Test.YtggmjiddadjilaeGreatC21
import Derived.Test.YtggmjiddadjilaeGreatC17
import Derived.Test.YtggmjiddadjilaeGreatC36
import Derived.Test.YtggmjiddadjilaeGreatC11
import Derived.Test.YtggmjiddadjilaeGreatC34
import Derived.Test.YtggmjiddadjilaeGreatC13
import Derived.Test.YtggmjiddadjilaeGreatC30
import Derived.Test.YtggmjiddadjilaeGreatC24
import Derived.Deep.DeepCutAuto
import Derived.Deep.RegionWith
import Derived.Deep.QuietTactic
import Derived.BigQuiet
namespace Go.Proofs.YtggmjiddadjilaeGreat
open Go.RowKit Go.BigFrame
structure HlJ (w W1 W3:World) (BB:Nat) (ac ar ag:Option Addr) (cc cr cg:Nat) (t:T) (x:GC) (U:Value) (us:List Value) (ls:List (List ByteArray)) (lns:List ByteArray) (s:ByteArray) (q:Int) (va:Value) (k tb gb cb b off:Nat) (L:Nat→Bool) (W:World) (v6 v24 v25 v26 v27 v28 v29 v30 v31 v32 v33 v34 v35:Value):Prop where
 f0:L 0=true→v24=U
 f1:L 1=true→v25=.agg #[.slice ac t.cols.length cc,.int .i64 t.head,.int .i64 t.foot,.slice ar t.rows.length cr,.int .i64 t.gap]
 f2:L 2=true→v26=.agg #[.int .i64 x.row,.int .i64 x.col,.int .i64 x.rows,.int .i64 x.cols,.int .i64 x.ins]
 f3:L 3=true→v27=.string s
 f4:L 4=true→v28=va
 f5:L 5=true→v29=.pointer (some ⟨tb,4,none⟩)
 f6:L 6=true→v30=.int .i64 t.gap
 f7:L 7=true→v31=.agg #[.int .i64 x.row,.int .i64 x.col,.int .i64 x.rows,.int .i64 x.cols,.int .i64 x.ins]
 f8:L 8=true→v32=.int .i64 q
 f9:L 9=true→L 11=false→RowS W BB v33 lns
 f10:L 10=true→∃ g,v34=.slice (some ⟨g,0,none⟩) 1 1∧(L 11=false→W.cell? ⟨g,0,none⟩=some v33)
 fA:L 12=true→v6=v35
 nA:L 12=false→v6=U
 b4:L 11=false→Below W3.heap.size W3 W
 bel:Below W1.heap.size W1 W
 ownA:L 11=true→W.ownsRow BB 54 1 v35 (us ++ [v33]).length (us ++ [v33])∧RowSs W BB (us ++ [v33]) (ls ++ [lns])
theorem field_cells (a b c:Value) (W:World):(Instr.field 36 (.agg #[a,b,c]) 2).run Tryz.prog W=.ok c W:=by kernel_rfl
set_option maxRecDepth 100000 in
set_option maxHeartbeats 4000000 in
theorem implHgtLines (ac ar:Option Addr) (cc cr:Nat) (t:T) (hD:Drawn t) (width:Int) (w:World) {z:Nat} (hc:ColsAt w z (.slice ac t.cols.length cc) t.cols) (hr:RowsAt w z (.slice ar t.rows.length cr) t.rows) :
  Calls Tryz.prog 28 #[.agg #[.slice ac t.cols.length cc,.int .i64 t.head,.int .i64 t.foot,.slice ar t.rows.length cr,.int .i64 t.gap],.int .i64 width] w fun e w'=>∃ v,e=.returned v∧LlsAt w' w.heap.size v (linesT t width)∧Below w.heap.size w w':=by
 have hmx:Tryz.prog.follows .mixedOrders=true:=by kernel_rfl
 have hfld:=field_cells
 obtain ⟨i0,hi0,hz0,hz1,hz2⟩:=info_parts infoSs
 have HK0:=Hd (k_alloc (Below.refl w.heap.size w) (.cells #[.slice ac t.cols.length cc,.int .i64 t.head,.int .i64 t.foot,.slice ar t.rows.length cr,.int .i64 t.gap] 26))
 have HX0:=Hd (newestB w (.cells #[.slice ac t.cols.length cc,.int .i64 t.head,.int .i64 t.foot,.slice ar t.rows.length cr,.int .i64 t.gap] 26))
 have HT0:Hid (TA w z ac ar cc cr t):=⟨hc,hr⟩
 have hs0:(w.alloc (.cells #[.slice ac t.cols.length cc,.int .i64 t.head,.int .i64 t.foot,.slice ar t.rows.length cr,.int .i64 t.gap] 26)).heap.size=w.heap.size+1:=by simp
 clear hc hr
 go_enter Tryz.func28,Tryz.ntmps28
 go_upto_region 1 with fail
 generalize w.alloc (.cells #[.slice ac t.cols.length cc,.int .i64 t.head,.int .i64 t.foot,.slice ar t.rows.length cr,.int .i64 t.gap] 26)=W0 at HK0 HX0 hs0 ⊢
 obtain ⟨b0,b1,b2,b3,b4⟩:=fiveO HX0.out
 have KM:=Hd (implmayBeWide ac ar cc cr t width _ (HT0.out.kept HK0.out).1 (HT0.out.kept HK0.out).2)
 cases hmay:(tblB t && inB width 0 300) with
 | false =>
  have HW:Hid (linesT t width=[]):=by rw [Hid,linesT,if_neg (by rw [hmay];simp)]
  rw [hmay] at KM
  clear hmay
  go_wp2_with fail
  refine KM.out.mono ?_
  rintro e w2 ⟨rfl,hb2⟩
  have HK2:=Hd (k_trans HK0.out hb2)
  clear hb2 KM b0 b1 b2 b3 b4
  go_wp2
  go_ret
  exact ⟨_,rfl,by rw [HW.out];exact ⟨none,0,rfl,Nat.le_refl _,Nat.zero_le _,fun i hi=>absurd hi (Nat.not_lt_zero _)⟩,HK2.out⟩
 | true =>
  have HW:Hid (linesT t width=linesL t (widL t width) (gOf t).cells):=by rw [Hid,linesT,if_pos hmay]
  rw [hmay] at KM
  have HWT:Hid (widT t width=widL t width):=by rw [Hid,widT,if_pos hmay]
  rw [Bool.and_eq_true] at hmay
  obtain ⟨htk,hin⟩:=hmay
  have hw:0≤width∧width≤300:=by simpa [inB] using hin
  obtain ⟨_,hlw,_⟩:=acr_wid hD htk hw
  obtain ⟨_,hC88,_⟩:=acr_least hD htk
  obtain ⟨h40,C,hgc,hC88',hcel⟩:=cel_of hD
  have HCel:=Hd hcel
  have HLw:=Hd hlw
  have hl1:(widL t width).length≤1048576:=by rw [hlw];omega
  have KC:=Hd (fun W (h:TA W z ac ar cc cr t)=>implWidCols ac ar cc cr t hD width W h.1 h.2)
  have KG:=Hd (fun W (h:TA W z ac ar cc cr t)=>implGrdOf ac ar cc cr t hD W h.1 h.2)
  rw [HWT.out] at KC
  generalize widL t width=l at KC HW HLw hl1
  have HGk:=Hd (gOf_gok hD)
  clear hlw hcel hgc hD htk hin hw hC88' HWT
  go_wp2_with fail
  refine KM.out.mono ?_
  rintro e w2 ⟨rfl,hb2⟩
  have HX2:=Hd ((hb2.block w.heap.size (by omega)).trans HX0.out)
  have HK2:=Hd (k_trans HK0.out hb2)
  have hz2':w.heap.size < w2.heap.size:=by have:=hb2.size;omega
  clear hb2 KM b0 b1 b2 b3 b4 HX0 HK0
  obtain ⟨b0,b1,b2,b3,b4⟩:=fiveO HX2.out
  go_wp2_with fail
  refine (KC.out _ (HT0.out.kept HK2.out)).mono ?_
  rintro e w3 ⟨v3,rfl,hR3,hb3⟩
  obtain ⟨a3,c3,rfl⟩:=hR3.form
  have HI3:=Hd hR3.at
  rw [HLw.out] at HI3
  have HX3:=Hd ((hb3.block w.heap.size hz2').trans HX2.out)
  have HK3:=Hd (k_trans HK2.out hb3)
  have hz3:w.heap.size < w3.heap.size:=by have:=hb3.size;omega
  clear hb3 hR3 b0 b1 b2 b3 b4 HX2 HK2
  rw [HLw.out]
  obtain ⟨b0,b1,b2,b3,b4⟩:=fiveO HX3.out
  go_wp2_with fail
  refine (KG.out _ (HT0.out.kept HK3.out)).mono ?_
  rintro e W1 ⟨vg,rfl,hO4,hb4⟩
  obtain ⟨ag,cg,rfl⟩:=own_slice hO4
  have HG1:=Hd (hO4.at HGk.out)
  have HX1:=Hd ((hb4.block w.heap.size hz3).trans HX3.out)
  have HK1:=Hd (k_trans HK3.out hb4)
  have HI1:=Hd (HI3.out.kept hb4)
  have hz1':w.heap.size < W1.heap.size:=by have:=hb4.size;omega
  have HLe:=Hd (linesL_len t l (gOf t).cells)
  have HLn:=Hd (fun k (h:k < (gOf t).cells.length)=>linesL_next t l h)
  have HLs:=Hd (linesL_size t l (gOf t).cells)
  clear hb4 hO4 b0 b1 b2 b3 b4 HX3 HK3 HI3
  go_wp2_with fail
  go_loopw [6,20] (fun o i W=>∃ (k:Nat) (us:List Value),i=.int .i64 k∧k≤(gOf t).cells.length∧Hid (W.ownsRow W1.heap.size 54 1 o us.length us)∧Hid (RowSs W W1.heap.size us ((linesL t l (gOf t).cells).take k))∧Hid (Below W1.heap.size W1 W)) (fun _ i _=>(gOf t).cells.length - (intOf i).toNat)
  case atStart=>exact ⟨0,[],rfl,Nat.zero_le _,World.ownsRow_nil _ _ _ _,by rw [List.take_zero];exact RowSs.nil _ _,Below.refl _ _⟩
  case round =>
   obtain ⟨k,us,rfl,hk,HO,HRs,HBr⟩:=hrel
   by_cases hkl:k < (gOf t).cells.length
   case neg =>
    obtain rfl:k=(gOf t).cells.length:=by omega
    rw [← HLe.out,List.take_length] at HRs
    have HF:=Hd (HRs.out.lls HO.out (z:=w.heap.size) (by omega) (by omega) HLs.out)
    have HK:=Hd (HK1.out.trans (HBr.out.mono (by omega)))
    go_wp2
    go_ret
    exact ⟨_,rfl,by rw [HW.out];exact HF.out,HK.out⟩
   obtain ⟨b,off,cap',e',hc1,hc2,hbl,hx,hxo⟩:=At.get (HG1.out.kept HBr.out) hkl
   simp only [Value.slice.injEq,true_and] at e'
   obtain ⟨rfl,rfl⟩:=e'
   have HNx:=Hd (HLn.out k hkl)
   have HCx:=Hd (HCel.out k hkl)
   generalize (linesL t l (gOf t).cells).take k=ls at HRs HNx
   generalize (gOf t).cells.getD k dG=x at hx hxo HNx HCx
   obtain ⟨x0,x1,x2,x3,x4⟩:=hx
   unfold maxLen at hc2
   go_upto_region 8 with fail
   have HB4:=Hd (k_alloc (Below.refl wr.heap.size wr) (.cells #[.int .i64 x.row,.int .i64 x.col,.int .i64 x.rows,.int .i64 x.cols,.int .i64 x.ins] 49))
   have HB1:=Hd (k_trans HBr.out HB4.out)
   have HC4:=Hd (newestB wr (.cells #[.int .i64 x.row,.int .i64 x.col,.int .i64 x.rows,.int .i64 x.cols,.int .i64 x.ins] 49))
   have hlc:wr.heap.size < (wr.alloc (.cells #[.int .i64 x.row,.int .i64 x.col,.int .i64 x.rows,.int .i64 x.cols,.int .i64 x.ins] 49)).heap.size:=by simp
   have HX:=Hd ((HB1.out.block w.heap.size hz1').trans HX1.out)
   have hlt0:w.heap.size < (wr.alloc (.cells #[.int .i64 x.row,.int .i64 x.col,.int .i64 x.rows,.int .i64 x.cols,.int .i64 x.ins] 49)).heap.size:=(bL HX.out)
   replace HO:=Hd (ownsRow_keptS HO.out HB4.out)
   replace HRs:=Hd (HRs.out.kept HB4.out)
   generalize wr.alloc (.cells #[.int .i64 x.row,.int .i64 x.col,.int .i64 x.rows,.int .i64 x.cols,.int .i64 x.ins] 49)=W3 at HB4 HB1 HC4 hlc HX hlt0 HO HRs ⊢
   generalize wr.heap.size=cb at HC4 hlc ⊢
   have hsz:(textOf t x).size≤maxLen:=text_size HCx.out HT0.out.2
   have KT:=Hd (fun W (h:Below W3.heap.size W3 W)=>impltextOf ac ar cc cr t x HCx.out W (((HT0.out.2.kept HK1.out).kept HB1.out).kept h))
   have KW:=Hd (fun W (h:Below W3.heap.size W3 W)=>implWidCell _ l hl1 t.gap x hxo W ((HI1.out.kept HB1.out).kept h))
   have KL:=Hd (fun W=>implTxtLines (textOf t x) hsz (cellV l t.gap x) W)
   have HNy:Hid ((linesL t l (gOf t).cells).take (k+1)=ls ++ [lnOut (lnSt (cellV l t.gap x) (wordsW (textOf t x)))]):=HNx.out
   clear HNx hsz
   have HNx:=HNy
   clear HNy HCx hxo
   generalize lnOut (lnSt (cellV l t.gap x) (wordsW (textOf t x)))=lns at KL HNx
   generalize cellV l t.gap x=q at KW KL
   generalize textOf t x=s at KT KL
   have husl:us.length≤40:=by have h1:=HRs.out.1;have h2:=congrArg List.length HNx.out;rw [List.length_append,List.length_take,List.length_singleton] at h2;omega
   have HBs:Hid (∀ {m:Nat},W1.heap.size≤m→W1.heap.size≤m):=fun h=>h
   have HBs2:Hid (∀ {m:Nat},W1.heap.size≤m→W1.heap.size≤m):=fun h=>h
   clear HCel HLn HLs HLe x0 x1 x2 x3 x4 HBr HB4
   refine wp_region_inv2 (fun L act W=>∃ v6 v24 v25 v26 v27 v28 v29 v30 v31 v32 v33 v34 v35:Value,act=⟨#[.agg #[.slice ac t.cols.length cc,.int .i64 t.head,.int .i64 t.foot,.slice ar t.rows.length cr,.int .i64 t.gap],.int .i64 width,.pointer (some ⟨w.heap.size,0,none⟩),undef,.slice none 0 0,.slice a3 (colN t) c3,v6,undef,.pointer (some ⟨cb,0,none⟩),.agg #[.slice ac t.cols.length cc,.int .i64 t.head,.int .i64 t.foot,.slice ar t.rows.length cr,.int .i64 t.gap],.int .i64 width,.bool true,.bool false,.agg #[.slice ac t.cols.length cc,.int .i64 t.head,.int .i64 t.foot,.slice ar t.rows.length cr,.int .i64 t.gap],.int .i64 width,.slice a3 (colN t) c3,.agg #[.slice ac t.cols.length cc,.int .i64 t.head,.int .i64 t.foot,.slice ar t.rows.length cr,.int .i64 t.gap],.agg #[.int .i64 (gOf t).rows,.int .i64 (gOf t).cols,.slice (some ⟨b,off,none⟩) (gOf t).cells.length cg],.slice (some ⟨b,off,none⟩) (gOf t).cells.length cg,.int .i64 ((gOf t).cells.length:Int),.int .i64 (k:Int),.bool true,.pointer (some ⟨b,off+k * 5,none⟩),.agg #[.int .i64 x.row,.int .i64 x.col,.int .i64 x.rows,.int .i64 x.cols,.int .i64 x.ins],v24,v25,v26,v27,v28,v29,v30,v31,v32,v33,v34,v35,u36,undef],[]⟩∧HlJ w W1 W3 W1.heap.size ac ar (some ⟨b,off,none⟩) cc cr cg t x u6 us ls lns s q (.slice a3 (colN t) c3) k w.heap.size 0 cb b off L W v6 v24 v25 v26 v27 v28 v29 v30 v31 v32 v33 v34 v35) hmx (by kernel_rfl) ?hs ?hd ?h0
   case h0=>exact ⟨_,_,_,_,_,_,_,_,_,_,_,_,_,rfl,⟨(fun h=>by cases h),(fun h=>by cases h),(fun h=>by cases h),(fun h=>by cases h),(fun h=>by cases h),(fun h=>by cases h),(fun h=>by cases h),(fun h=>by cases h),(fun h=>by cases h),(fun h=>by cases h),(fun h=>by cases h),(fun h=>by cases h),(fun _=>rfl),(fun _=>k_drew (Below.refl _ _)),k_drew HB1.out,(fun h=>by cases h)⟩⟩
   case hd =>
    intro L act W hJ hall
    obtain ⟨v6,v24,v25,v26,v27,v28,v29,v30,v31,v32,v33,v34,v35,ha,J⟩:=hJ
    subst ha
    obtain rfl:=J.fA (hall 12 (by decide))
    obtain ⟨ho5,hr5⟩:=J.ownA (hall 11 (by decide))
    have HO5:=Hd ho5
    have HR5:=Hd hr5
    have HB5:=Hd J.bel
    obtain ⟨g',cap'',rfl⟩:=Joins.ownsRow_form HO5.out (by simp)
    clear J hall ho5 hr5
    go_wp2
    go_roundw
    case rel=>exact ⟨k+1,_,by go_num,by omega,HO5,by rw [HNx.out];exact HR5,HB5⟩
    case measure=>simp [intOf];omega
   case hs =>
    intro L act W i o hJ hcl ho hLi haft K hK
    obtain ⟨v6,v24,v25,v26,v27,v28,v29,v30,v31,v32,v33,v34,v35,ha,J⟩:=hJ
    subst ha
    have hi':i < 13:=by
     have:=(bL ho)
     simpa using this
    rcases (by omega:i=0∨i=1∨i=2∨i=3∨i=4∨i=5∨i=6∨i=7∨i=8∨i=9∨i=10∨i=11∨i=12) with rfl | rfl | rfl | rfl | rfl | rfl | rfl | rfl | rfl | rfl | rfl | rfl | rfl
    all_goals
     simp only [List.getElem?_toArray,List.getElem?_cons_zero,List.getElem?_cons_succ,Option.some.injEq] at ho
     subst ho
     clear hi'
    ·skip
     have hAp:L 11=false:=(hcl 11 0 (by kernel_rfl) hLi)
     have hAs:L 12=false:=(hcl 12 11 (by kernel_rfl) (hcl 11 0 (by kernel_rfl) hLi))
     have B4:=J.b4 hAp
     obtain rfl:=J.nA hAs
     go_simp
     exact hK _ _ ⟨_,_,_,_,_,_,_,_,_,_,_,_,_,rfl,⟨(fun _=>rfl),(uq J.f1),(uq J.f2),(uq J.f3),(uq J.f4),(uq J.f5),(uq J.f6),(uq J.f7),(uq J.f8),(fun h h2=>J.f9 (un h) (by rwa [upd_ne rfl] at h2)),(ub J.f10),(uf hAs),(uq J.nA),(fun _=>B4),J.bel,(uf hAp)⟩⟩
    ·skip
     have hAp:L 11=false:=(hcl 11 10 (by kernel_rfl) (hcl 10 9 (by kernel_rfl) (hcl 9 3 (by kernel_rfl) (hcl 3 1 (by kernel_rfl) hLi))))
     have hAs:L 12=false:=(hcl 12 11 (by kernel_rfl) (hcl 11 10 (by kernel_rfl) (hcl 10 9 (by kernel_rfl) (hcl 9 3 (by kernel_rfl) (hcl 3 1 (by kernel_rfl) hLi)))))
     have B4:=J.b4 hAp
     obtain ⟨q0,q1,q2,q3,q4⟩:=fiveO ((B4.block _ hlt0).trans HX.out)
     have hl:=Nat.lt_of_lt_of_le hlt0 B4.size
     go_simp
     exact hK _ _ ⟨_,_,_,_,_,_,_,_,_,_,_,_,_,rfl,⟨(uq J.f0),(fun _=>rfl),(uq J.f2),(uq J.f3),(uq J.f4),(uq J.f5),(uq J.f6),(uq J.f7),(uq J.f8),(fun h h2=>J.f9 (un h) (by rwa [upd_ne rfl] at h2)),(ub J.f10),(uf hAs),(uq J.nA),(fun _=>B4),J.bel,(uf hAp)⟩⟩
    ·skip
     have hAp:L 11=false:=(hcl 11 10 (by kernel_rfl) (hcl 10 9 (by kernel_rfl) (hcl 9 3 (by kernel_rfl) (hcl 3 2 (by kernel_rfl) hLi))))
     have hAs:L 12=false:=(hcl 12 11 (by kernel_rfl) (hcl 11 10 (by kernel_rfl) (hcl 10 9 (by kernel_rfl) (hcl 9 3 (by kernel_rfl) (hcl 3 2 (by kernel_rfl) hLi)))))
     have B4:=J.b4 hAp
     obtain ⟨q0,q1,q2,q3,q4⟩:=fiveO ((B4.block _ hlc).trans HC4.out)
     have hl:=Nat.lt_of_lt_of_le hlc B4.size
     go_simp
     exact hK _ _ ⟨_,_,_,_,_,_,_,_,_,_,_,_,_,rfl,⟨(uq J.f0),(uq J.f1),(fun _=>rfl),(uq J.f3),(uq J.f4),(uq J.f5),(uq J.f6),(uq J.f7),(uq J.f8),(fun h h2=>J.f9 (un h) (by rwa [upd_ne rfl] at h2)),(ub J.f10),(uf hAs),(uq J.nA),(fun _=>B4),J.bel,(uf hAp)⟩⟩
    ·skip
     have hAp:L 11=false:=(hcl 11 10 (by kernel_rfl) (hcl 10 9 (by kernel_rfl) (hcl 9 3 (by kernel_rfl) hLi)))
     have hAs:L 12=false:=(hcl 12 11 (by kernel_rfl) (hcl 11 10 (by kernel_rfl) (hcl 10 9 (by kernel_rfl) (hcl 9 3 (by kernel_rfl) hLi))))
     have B4:=J.b4 hAp
     obtain rfl:=J.f1 (haft ⟨1,.data⟩ (by simp) rfl)
     obtain rfl:=J.f2 (haft ⟨2,.data⟩ (by simp) rfl)
     go_simp
     go_wp2_with (go_at_call 59;refine (KT.out W B4).mono ?_;rintro e WN ⟨rfl,_,hb⟩)
     exact ⟨_,_,_,_,_,_,_,_,_,_,_,_,_,rfl,⟨(uq J.f0),(uq J.f1),(uq J.f2),(fun _=>rfl),(uq J.f4),(uq J.f5),(uq J.f6),(uq J.f7),(uq J.f8),(fun h h2=>(J.f9 (un h) (by rwa [upd_ne rfl] at h2)).below hb (Nat.le_refl _)),(fun h=>by obtain ⟨g,e,c⟩:=J.f10 (un h);exact ⟨g,e,fun h2=>(hb.cell (World.block_lt_of_cell? _ _ (c (by rwa [upd_ne rfl] at h2)))).trans (c (by rwa [upd_ne rfl] at h2))⟩),(uf hAs),(uq J.nA),(fun _=>k_trans B4 hb),k_trans J.bel hb,(uf hAp)⟩⟩
    ·skip
     have hAp:L 11=false:=(hcl 11 10 (by kernel_rfl) (hcl 10 9 (by kernel_rfl) (hcl 9 8 (by kernel_rfl) (hcl 8 4 (by kernel_rfl) hLi))))
     have hAs:L 12=false:=(hcl 12 11 (by kernel_rfl) (hcl 11 10 (by kernel_rfl) (hcl 10 9 (by kernel_rfl) (hcl 9 8 (by kernel_rfl) (hcl 8 4 (by kernel_rfl) hLi)))))
     have B4:=J.b4 hAp
     go_simp
     exact hK _ _ ⟨_,_,_,_,_,_,_,_,_,_,_,_,_,rfl,⟨(uq J.f0),(uq J.f1),(uq J.f2),(uq J.f3),(fun _=>rfl),(uq J.f5),(uq J.f6),(uq J.f7),(uq J.f8),(fun h h2=>J.f9 (un h) (by rwa [upd_ne rfl] at h2)),(ub J.f10),(uf hAs),(uq J.nA),(fun _=>B4),J.bel,(uf hAp)⟩⟩
    ·skip
     have hAp:L 11=false:=(hcl 11 10 (by kernel_rfl) (hcl 10 9 (by kernel_rfl) (hcl 9 8 (by kernel_rfl) (hcl 8 6 (by kernel_rfl) (hcl 6 5 (by kernel_rfl) hLi)))))
     have hAs:L 12=false:=(hcl 12 11 (by kernel_rfl) (hcl 11 10 (by kernel_rfl) (hcl 10 9 (by kernel_rfl) (hcl 9 8 (by kernel_rfl) (hcl 8 6 (by kernel_rfl) (hcl 6 5 (by kernel_rfl) hLi))))))
     have B4:=J.b4 hAp
     go_simp
     exact hK _ _ ⟨_,_,_,_,_,_,_,_,_,_,_,_,_,rfl,⟨(uq J.f0),(uq J.f1),(uq J.f2),(uq J.f3),(uq J.f4),(fun _=>rfl),(uq J.f6),(uq J.f7),(uq J.f8),(fun h h2=>J.f9 (un h) (by rwa [upd_ne rfl] at h2)),(ub J.f10),(uf hAs),(uq J.nA),(fun _=>B4),J.bel,(uf hAp)⟩⟩
    ·skip
     have hAp:L 11=false:=(hcl 11 10 (by kernel_rfl) (hcl 10 9 (by kernel_rfl) (hcl 9 8 (by kernel_rfl) (hcl 8 6 (by kernel_rfl) hLi))))
     have hAs:L 12=false:=(hcl 12 11 (by kernel_rfl) (hcl 11 10 (by kernel_rfl) (hcl 10 9 (by kernel_rfl) (hcl 9 8 (by kernel_rfl) (hcl 8 6 (by kernel_rfl) hLi)))))
     have B4:=J.b4 hAp
     obtain ⟨q0,q1,q2,q3,q4⟩:=fiveO ((B4.block _ hlt0).trans HX.out)
     have hl:=Nat.lt_of_lt_of_le hlt0 B4.size
     obtain rfl:=J.f5 (haft ⟨5,.data⟩ (by simp) rfl)
     go_simp
     exact hK _ _ ⟨_,_,_,_,_,_,_,_,_,_,_,_,_,rfl,⟨(uq J.f0),(uq J.f1),(uq J.f2),(uq J.f3),(uq J.f4),(uq J.f5),(fun _=>rfl),(uq J.f7),(uq J.f8),(fun h h2=>J.f9 (un h) (by rwa [upd_ne rfl] at h2)),(ub J.f10),(uf hAs),(uq J.nA),(fun _=>B4),J.bel,(uf hAp)⟩⟩
    ·skip
     have hAp:L 11=false:=(hcl 11 10 (by kernel_rfl) (hcl 10 9 (by kernel_rfl) (hcl 9 8 (by kernel_rfl) (hcl 8 7 (by kernel_rfl) hLi))))
     have hAs:L 12=false:=(hcl 12 11 (by kernel_rfl) (hcl 11 10 (by kernel_rfl) (hcl 10 9 (by kernel_rfl) (hcl 9 8 (by kernel_rfl) (hcl 8 7 (by kernel_rfl) hLi)))))
     have B4:=J.b4 hAp
     obtain ⟨q0,q1,q2,q3,q4⟩:=fiveO ((B4.block _ hlc).trans HC4.out)
     have hl:=Nat.lt_of_lt_of_le hlc B4.size
     go_simp
     exact hK _ _ ⟨_,_,_,_,_,_,_,_,_,_,_,_,_,rfl,⟨(uq J.f0),(uq J.f1),(uq J.f2),(uq J.f3),(uq J.f4),(uq J.f5),(uq J.f6),(fun _=>rfl),(uq J.f8),(fun h h2=>J.f9 (un h) (by rwa [upd_ne rfl] at h2)),(ub J.f10),(uf hAs),(uq J.nA),(fun _=>B4),J.bel,(uf hAp)⟩⟩
    ·skip
     have hAp:L 11=false:=(hcl 11 10 (by kernel_rfl) (hcl 10 9 (by kernel_rfl) (hcl 9 8 (by kernel_rfl) hLi)))
     have hAs:L 12=false:=(hcl 12 11 (by kernel_rfl) (hcl 11 10 (by kernel_rfl) (hcl 10 9 (by kernel_rfl) (hcl 9 8 (by kernel_rfl) hLi))))
     have B4:=J.b4 hAp
     obtain rfl:=J.f4 (haft ⟨4,.data⟩ (by simp) rfl)
     obtain rfl:=J.f6 (haft ⟨6,.data⟩ (by simp) rfl)
     obtain rfl:=J.f7 (haft ⟨7,.data⟩ (by simp) rfl)
     go_simp
     go_wp2_with (go_at_call 23;refine (KW.out W B4).mono ?_;rintro e WN ⟨rfl,hb⟩)
     exact ⟨_,_,_,_,_,_,_,_,_,_,_,_,_,rfl,⟨(uq J.f0),(uq J.f1),(uq J.f2),(uq J.f3),(uq J.f4),(uq J.f5),(uq J.f6),(uq J.f7),(fun _=>rfl),(fun h h2=>(J.f9 (un h) (by rwa [upd_ne rfl] at h2)).below hb (Nat.le_refl _)),(fun h=>by obtain ⟨g,e,c⟩:=J.f10 (un h);exact ⟨g,e,fun h2=>(hb.cell (World.block_lt_of_cell? _ _ (c (by rwa [upd_ne rfl] at h2)))).trans (c (by rwa [upd_ne rfl] at h2))⟩),(uf hAs),(uq J.nA),(fun _=>k_trans B4 hb),k_trans J.bel hb,(uf hAp)⟩⟩
    ·skip
     have hAp:L 11=false:=(hcl 11 10 (by kernel_rfl) (hcl 10 9 (by kernel_rfl) hLi))
     have hAs:L 12=false:=(hcl 12 11 (by kernel_rfl) (hcl 11 10 (by kernel_rfl) (hcl 10 9 (by kernel_rfl) hLi)))
     have B4:=J.b4 hAp
     obtain rfl:=J.f3 (haft ⟨3,.data⟩ (by simp) rfl)
     obtain rfl:=J.f8 (haft ⟨8,.data⟩ (by simp) rfl)
     go_simp
     go_wp2_with (go_at_call 58;refine (KL.out W).mono ?_;rintro e WN ⟨vt,rfl,hR,hb⟩;have hR2:=(RowS.of_owns hR).base (B':=W1.heap.size) (HBs.out J.bel.size);clear hR)
     exact ⟨_,_,_,_,_,_,_,_,_,_,_,_,_,rfl,⟨(uq J.f0),(uq J.f1),(uq J.f2),(uq J.f3),(uq J.f4),(uq J.f5),(uq J.f6),(uq J.f7),(uq J.f8),(fun _ _=>hR2),(fun h=>by rw [upd_ne rfl,(hcl 10 9 (by kernel_rfl) hLi)] at h;cases h),(uf hAs),(uq J.nA),(fun _=>k_trans B4 hb),k_trans J.bel hb,(uf hAp)⟩⟩
    ·skip
     have hAp:L 11=false:=(hcl 11 10 (by kernel_rfl) hLi)
     have hAs:L 12=false:=(hcl 12 11 (by kernel_rfl) (hcl 11 10 (by kernel_rfl) hLi))
     have B4:=J.b4 hAp
     obtain ⟨a9,c9,rfl⟩:=(J.f9 (haft ⟨9,.data⟩ (by simp) rfl) hAp).form
     go_simp
     exact hK _ _ ⟨_,_,_,_,_,_,_,_,_,_,_,_,_,rfl,⟨(uq J.f0),(uq J.f1),(uq J.f2),(uq J.f3),(uq J.f4),(uq J.f5),(uq J.f6),(uq J.f7),(uq J.f8),(fun h h2=>(J.f9 (un h) (by rwa [upd_ne rfl] at h2)).below (k_alloc (Below.refl _ _) _) (Nat.le_refl _)),(fun _=>⟨_,rfl,fun _=>by simp⟩),(uf hAs),(uq J.nA),(fun _=>k_alloc B4 _),k_alloc J.bel _,(uf hAp)⟩⟩
    ·skip
     have hAp:L 11=false:=hLi
     have hAs:L 12=false:=(hcl 12 11 (by kernel_rfl) hLi)
     have B4:=J.b4 hAp
     obtain rfl:=J.f0 (haft ⟨0,.data⟩ (by simp) rfl)
     obtain ⟨g,rfl,hg⟩:=J.f10 (haft ⟨10,.data⟩ (by simp) rfl)
     have hO4:=ownsRow_keptS HO.out B4
     have hT4:=J.f9 (by cases hz:L 9 with | true=>rfl | false=>have:=hcl 10 9 (by kernel_rfl) hz;rw [(haft ⟨10,.data⟩ (by simp) rfl)] at this;cases this) hAp
     rw [if_pos (by rfl)]
     refine wp_append_own _ (.tmp 24) (.tmp 34) 52 rfl W1.heap.size 54 i0 (.slice none 0 0) 1 24 Tryz.underlying52 hi0 hz0 hz1 hz2 rfl (by decide) _ _ _ rfl hO4 ⟨g,0,none⟩ 1 1 [v33] rfl rfl ?c1 ?c2 ?c3 ?c4 ?c5 ?_
     case c1 =>
      intro i u hi
      match i,hi with
      | 0,hi=>simp at hi;subst hi;simpa [Addr.add] using hg hAp
     case c2=>intro u hu;simp at hu;subst hu;obtain ⟨a9,c9,rfl⟩:=hT4.form;rfl
     case c3=>unfold maxLen;omega
     case c4=>omega
     case c5=>exact HBs.out (J.bel.size)
     intro v' w5 hown' hgrow' _
     have hB5:Below W1.heap.size W1 w5:=J.bel.grown hgrow' J.bel.size (fun q hq=>HBs2.out (hO4.lt q hq).1)
     have hR5:=((HRs.out.kept B4).grown hO4 hgrow').next (hT4.grown hO4 hgrow')
     exact hK _ _ ⟨_,_,_,_,_,_,_,_,_,_,_,_,_,rfl,⟨(uq J.f0),(uq J.f1),(uq J.f2),(uq J.f3),(uq J.f4),(uq J.f5),(uq J.f6),(uq J.f7),(uq J.f8),(fun _ h2=>by rw [upd_self] at h2;cases h2),(fun _=>⟨g,rfl,fun h2=>by rw [upd_self] at h2;cases h2⟩),(uf hAs),(uq J.nA),(fun h=>by rw [upd_self] at h;cases h),hB5,(fun _=>⟨by rw [List.length_append];exact hown',hR5⟩)⟩⟩
    ·skip
     go_simp
     exact hK _ _ ⟨_,_,_,_,_,_,_,_,_,_,_,_,_,rfl,⟨(uq J.f0),(uq J.f1),(uq J.f2),(uq J.f3),(uq J.f4),(uq J.f5),(uq J.f6),(uq J.f7),(uq J.f8),(fun h h2=>J.f9 (un h) (by rwa [upd_ne rfl] at h2)),(ub J.f10),(fun _=>rfl),(fun h=>by rw [upd_self] at h;cases h),(uq J.b4),J.bel,(uq J.ownA)⟩⟩
theorem take_nextI {l:List Int} {k:Nat} (h:k < l.length):l.take (k+1)=l.take k ++ [l.getD k 0]:=by
 rw [List.take_succ_eq_append_getElem h,show l.getD k 0=l[k] by simp [List.getD,h]]
structure AdJ (w:World) (va vb U:Value) (xs:List Int) (k x y:Int) (p1 p2:Addr) (L:Nat→Bool) (W:World) (v5 v14 v15 v16 v17 v18 v19 v20 v21 v22 v23 v24 v25:Value):Prop where
 f0:L 0=true→v14=U
 f1:L 1=true→v15=va
 f2:L 2=true→v16=.int .i64 k
 f3:L 3=true→v17=.pointer (some p1)
 f4:L 4=true→v18=.int .i64 x
 f5:L 5=true→v19=vb
 f6:L 6=true→v20=.int .i64 k
 f7:L 7=true→v21=.pointer (some p2)
 f8:L 8=true→v22=.int .i64 y
 f9:L 9=true→v23=.int .i64 (x+y)
 f10:L 10=true→∃ g,v24=.slice (some ⟨g,0,none⟩) 1 1∧(L 11=false→W.cell? ⟨g,0,none⟩=some (.int .i64 (x+y)))
 f12:L 12=true→v5=v25
 n12:L 12=false→v5=U
 bel:Below w.heap.size w W
 own:L 11=false→W.ownsRow w.heap.size 3 1 U xs.length (xs.map (Value.int .i64))
 ownA:L 11=true→W.ownsRow w.heap.size 3 1 v25 (xs ++ [x+y]).length ((xs ++ [x+y]).map (Value.int .i64))
set_option maxRecDepth 100000 in
set_option maxHeartbeats 1000000 in
theorem specl6Add (va vb:Value) (a b:List Int) (hl:b.length=a.length) (h88:a.length≤88) (ha:a.all wtB=true) (hb:b.all wtB=true) (w:World) (h1:IntsAt w va a) (h2:IntsAt w vb b) :
  Calls Tryz.prog 85 #[va,vb] w fun e w'=>∃ v,e=.returned v∧RowI w' w.heap.size w'.heap.size v (addL a b)∧Below w.heap.size w w':=by
 have hmx:Tryz.prog.follows .mixedOrders=true:=by kernel_rfl
 obtain ⟨i0,hi,hz0,hz1,hz2⟩:=info_parts infoIc
 obtain ⟨aa,ca,rfl,_⟩:=h1.form
 obtain ⟨ab,cb,rfl,_⟩:=h2.form
 rw [hl] at h2 ⊢
 have H1:=Hd h1
 have H2:=Hd h2
 have HL:=Hd hl
 have HLn:=Hd (addL_len hl)
 have HA:=Hd (fun i (hi:i < a.length)=>wt_get ha hi)
 have HB:=Hd (fun i (hi:i < a.length)=>wt_get hb (i:=i) (by omega))
 have HG:=Hd (fun i (hi:i < a.length)=>addL_get hl hi)
 have HR0:=Hd (row_lit w w.heap.size (Nat.le_refl _))
 have HK0:=Hd (k_alloc (Below.refl w.heap.size w) (.cells #[] 3))
 clear h1 h2 ha hb hl
 go_enter Tryz.func85,Tryz.ntmps85
 go_wp2_with fail
 go_loopw [5,6] (fun o i W=>∃ k:Nat,i=.int .i64 k∧k≤a.length∧Hid (W.ownsRow w.heap.size 3 1 o ((addL a b).take k).length (((addL a b).take k).map (Value.int .i64)))∧Hid (Below w.heap.size w W)) (fun _ i _=>a.length - (intOf i).toNat)
 case atStart=>exact ⟨0,rfl,Nat.zero_le _,by rw [List.take_zero];exact HR0.out.owns,HK0⟩
 case round =>
  clear HR0 HK0
  obtain ⟨k,rfl,hk,HO,HBl⟩:=hrel
  by_cases hlt:k < a.length
  case neg =>
   obtain rfl:k=a.length:=by omega
   have HR:=Hd (RowI.of_owns HO.out)
   rw [← HLn.out,List.take_length] at HR
   go_wp2
   go_ret
   exact ⟨_,rfl,HR.out,HBl.out⟩
  obtain ⟨b1,o1,c1,e1,hc11,hc12,hb1,hx1⟩:=H1.out.get hlt
  simp only [Value.slice.injEq,true_and] at e1
  obtain ⟨rfl,rfl⟩:=e1
  obtain ⟨b2,o2,c2,e2,hc21,hc22,hb2,hx2⟩:=H2.out.get (i:=k) (by rw [HL.out];exact hlt)
  rw [HL.out] at e2 hc21
  simp only [Value.slice.injEq,true_and] at e2
  obtain ⟨rfl,rfl⟩:=e2
  have hxa:=HA.out k hlt
  have hxb:=HB.out k hlt
  have hol:((addL a b).take k).length≤k:=by rw [List.length_take];omega
  have HT:Hid ((addL a b).take (k+1)=(addL a b).take k ++ [a.getD k 0+b.getD k 0]):=by rw [Hid,take_nextI (by rw [HLn.out];exact hlt),HG.out k hlt]
  generalize (addL a b).take k=xs at HO HT hol
  generalize a.getD k 0=x at hx1 hxa HT
  generalize b.getD k 0=y at hx2 hxb HT
  unfold maxLen at hc12 hc22
  go_upto_region 5 with fail
  refine wp_region_inv2 (fun L act W=>∃ v5 v14 v15 v16 v17 v18 v19 v20 v21 v22 v23 v24 v25:Value,act=⟨#[.slice (some ⟨b1,o1,none⟩) a.length ca,.slice (some ⟨b2,o2,none⟩) a.length cb,undef,undef,.slice none 0 0,v5,.int .i64 (k:Int),.slice (some ⟨w.heap.size,0,none⟩) 0 0,.int .i64 (k:Int),.slice (some ⟨b1,o1,none⟩) a.length ca,.int .i64 (a.length:Int),.bool true,u12,u13,v14,v15,v16,v17,v18,v19,v20,v21,v22,v23,v24,v25,undef],[]⟩∧AdJ w (.slice (some ⟨b1,o1,none⟩) a.length ca) (.slice (some ⟨b2,o2,none⟩) a.length cb) u5 xs (k:Int) x y ⟨b1,o1+k,none⟩ ⟨b2,o2+k,none⟩ L W v5 v14 v15 v16 v17 v18 v19 v20 v21 v22 v23 v24 v25) hmx (by kernel_rfl) ?hs ?hd ?h0
  case h0=>exact ⟨_,_,_,_,_,_,_,_,_,_,_,_,_,rfl,⟨(fun h=>by cases h),(fun h=>by cases h),(fun h=>by cases h),(fun h=>by cases h),(fun h=>by cases h),(fun h=>by cases h),(fun h=>by cases h),(fun h=>by cases h),(fun h=>by cases h),(fun h=>by cases h),(fun h=>by cases h),(fun h=>by cases h),fun _=>rfl,k_drew HBl.out,fun _=>(RowI.of_owns HO.out |>.kept (w':=wr.drew) (fun _ _ _ _=>rfl)).owns,(fun h=>by cases h)⟩⟩
  case hd =>
   intro L act W hJ hall
   obtain ⟨v5,v14,v15,v16,v17,v18,v19,v20,v21,v22,v23,v24,v25,ha,J⟩:=hJ
   subst ha
   obtain rfl:=J.f12 (hall 12 (by decide))
   have HO5:=Hd (J.ownA (hall 11 (by decide)))
   have HB5:=Hd J.bel
   obtain ⟨g',cap'',rfl⟩:=Joins.ownsRow_form HO5.out (by simp)
   clear J hall
   go_wp2
   go_roundw
   case rel=>exact ⟨k+1,by go_num,by omega,by rw [HT.out];exact HO5,HB5⟩
   case measure=>simp [intOf];omega
  case hs =>
   intro L act W i o hJ hcl ho hLi haft K hK
   obtain ⟨v5,v14,v15,v16,v17,v18,v19,v20,v21,v22,v23,v24,v25,ha,J⟩:=hJ
   skip
   subst ha
   have hi':i < 13:=by
    have:=(bL ho)
    simpa using this
   rcases (by omega:i=0∨i=1∨i=2∨i=3∨i=4∨i=5∨i=6∨i=7∨i=8∨i=9∨i=10∨i=11∨i=12) with rfl | rfl | rfl | rfl | rfl | rfl | rfl | rfl | rfl | rfl | rfl | rfl | rfl
   all_goals
    simp only [List.getElem?_toArray,List.getElem?_cons_zero,List.getElem?_cons_succ,Option.some.injEq] at ho
    subst ho
    clear hi'
   ·skip
    have hL12:L 12=false:=hcl 12 0 (by kernel_rfl) hLi
    obtain rfl:=J.n12 hL12
    go_simp
    exact hK _ _ ⟨_,_,_,_,_,_,_,_,_,_,_,_,_,rfl,⟨(fun _=>rfl),(uq J.f1),(uq J.f2),(uq J.f3),(uq J.f4),(uq J.f5),(uq J.f6),(uq J.f7),(uq J.f8),(uq J.f9),(ub J.f10),(uq J.f12),(uq J.n12),(J.bel),(uq J.own),(uq J.ownA)⟩⟩
   ·skip
    go_simp
    exact hK _ _ ⟨_,_,_,_,_,_,_,_,_,_,_,_,_,rfl,⟨(uq J.f0),(fun _=>rfl),(uq J.f2),(uq J.f3),(uq J.f4),(uq J.f5),(uq J.f6),(uq J.f7),(uq J.f8),(uq J.f9),(ub J.f10),(uq J.f12),(uq J.n12),(J.bel),(uq J.own),(uq J.ownA)⟩⟩
   ·skip
    go_simp
    exact hK _ _ ⟨_,_,_,_,_,_,_,_,_,_,_,_,_,rfl,⟨(uq J.f0),(uq J.f1),(fun _=>rfl),(uq J.f3),(uq J.f4),(uq J.f5),(uq J.f6),(uq J.f7),(uq J.f8),(uq J.f9),(ub J.f10),(uq J.f12),(uq J.n12),(J.bel),(uq J.own),(uq J.ownA)⟩⟩
   ·skip
    obtain rfl:=J.f1 (haft ⟨1,.data⟩ (by simp) rfl)
    obtain rfl:=J.f2 (haft ⟨2,.data⟩ (by simp) rfl)
    go_simp
    exact hK _ _ ⟨_,_,_,_,_,_,_,_,_,_,_,_,_,rfl,⟨(uq J.f0),(uq J.f1),(uq J.f2),(fun _=>rfl),(uq J.f4),(uq J.f5),(uq J.f6),(uq J.f7),(uq J.f8),(uq J.f9),(ub J.f10),(uq J.f12),(uq J.n12),(J.bel),(uq J.own),(uq J.ownA)⟩⟩
   ·skip
    obtain rfl:=J.f3 (haft ⟨3,.data⟩ (by simp) rfl)
    have q1:=(J.bel.cell (p:=⟨b1,o1+k,none⟩) hb1).trans hx1
    go_simp
    exact hK _ _ ⟨_,_,_,_,_,_,_,_,_,_,_,_,_,rfl,⟨(uq J.f0),(uq J.f1),(uq J.f2),(uq J.f3),(fun _=>rfl),(uq J.f5),(uq J.f6),(uq J.f7),(uq J.f8),(uq J.f9),(ub J.f10),(uq J.f12),(uq J.n12),(J.bel),(uq J.own),(uq J.ownA)⟩⟩
   ·skip
    go_simp
    exact hK _ _ ⟨_,_,_,_,_,_,_,_,_,_,_,_,_,rfl,⟨(uq J.f0),(uq J.f1),(uq J.f2),(uq J.f3),(uq J.f4),(fun _=>rfl),(uq J.f6),(uq J.f7),(uq J.f8),(uq J.f9),(ub J.f10),(uq J.f12),(uq J.n12),(J.bel),(uq J.own),(uq J.ownA)⟩⟩
   ·skip
    go_simp
    exact hK _ _ ⟨_,_,_,_,_,_,_,_,_,_,_,_,_,rfl,⟨(uq J.f0),(uq J.f1),(uq J.f2),(uq J.f3),(uq J.f4),(uq J.f5),(fun _=>rfl),(uq J.f7),(uq J.f8),(uq J.f9),(ub J.f10),(uq J.f12),(uq J.n12),(J.bel),(uq J.own),(uq J.ownA)⟩⟩
   ·skip
    obtain rfl:=J.f5 (haft ⟨5,.data⟩ (by simp) rfl)
    obtain rfl:=J.f6 (haft ⟨6,.data⟩ (by simp) rfl)
    go_simp
    exact hK _ _ ⟨_,_,_,_,_,_,_,_,_,_,_,_,_,rfl,⟨(uq J.f0),(uq J.f1),(uq J.f2),(uq J.f3),(uq J.f4),(uq J.f5),(uq J.f6),(fun _=>rfl),(uq J.f8),(uq J.f9),(ub J.f10),(uq J.f12),(uq J.n12),(J.bel),(uq J.own),(uq J.ownA)⟩⟩
   ·skip
    obtain rfl:=J.f7 (haft ⟨7,.data⟩ (by simp) rfl)
    have q1:=(J.bel.cell (p:=⟨b2,o2+k,none⟩) hb2).trans hx2
    go_simp
    exact hK _ _ ⟨_,_,_,_,_,_,_,_,_,_,_,_,_,rfl,⟨(uq J.f0),(uq J.f1),(uq J.f2),(uq J.f3),(uq J.f4),(uq J.f5),(uq J.f6),(uq J.f7),(fun _=>rfl),(uq J.f9),(ub J.f10),(uq J.f12),(uq J.n12),(J.bel),(uq J.own),(uq J.ownA)⟩⟩
   ·skip
    obtain rfl:=J.f4 (haft ⟨4,.data⟩ (by simp) rfl)
    obtain rfl:=J.f8 (haft ⟨8,.data⟩ (by simp) rfl)
    go_simp
    exact hK _ _ ⟨_,_,_,_,_,_,_,_,_,_,_,_,_,rfl,⟨(uq J.f0),(uq J.f1),(uq J.f2),(uq J.f3),(uq J.f4),(uq J.f5),(uq J.f6),(uq J.f7),(uq J.f8),(fun _=>by rw [kind_small (by omega)]),(ub J.f10),(uq J.f12),(uq J.n12),(J.bel),(uq J.own),(uq J.ownA)⟩⟩
   ·skip
    obtain rfl:=J.f9 (haft ⟨9,.data⟩ (by simp) rfl)
    go_simp
    exact hK _ _ ⟨_,_,_,_,_,_,_,_,_,_,_,_,_,rfl,⟨(uq J.f0),(uq J.f1),(uq J.f2),(uq J.f3),(uq J.f4),(uq J.f5),(uq J.f6),(uq J.f7),(uq J.f8),(uq J.f9),(fun _=>⟨_,rfl,fun _=>by simp⟩),(uq J.f12),(uq J.n12),(k_alloc J.bel _),(fun h=>(J.own (un h)).alloc _),(fun h=>(J.ownA (un h)).alloc _)⟩⟩
   ·skip
    obtain rfl:=J.f0 (haft ⟨0,.data⟩ (by simp) rfl)
    obtain ⟨g,rfl,hg⟩:=J.f10 (haft ⟨10,.data⟩ (by simp) rfl)
    have hL12:L 12=false:=hcl 12 11 (by kernel_rfl) hLi
    have hO4:=J.own hLi
    rw [if_pos (by rfl)]
    refine wp_append_own _ (.tmp 14) (.tmp 24) 32 rfl w.heap.size 3 i0 (.int .i64 0) 1 8 Tryz.underlying32 hi hz0 hz1 hz2 rfl (by decide) _ _ _ rfl hO4 ⟨g,0,none⟩ 1 1 [.int .i64 (x+y)] rfl rfl ?c1 ?c2 ?c3 ?c4 ?c5 ?_
    case c1 =>
     intro i u hi
     match i,hi with
     | 0,hi=>simp at hi;subst hi;simpa [Addr.add] using hg hLi
    case c2=>intro u hu;simp at hu;subst hu;rfl
    case c3=>unfold maxLen;omega
    case c4=>omega
    case c5=>exact J.bel.size
    intro v' w5 hown' hgrow' _
    have hB5:Below w.heap.size w w5:=J.bel.grown hgrow' J.bel.size (fun q hq=>(hO4.lt q hq).1)
    exact hK _ _ ⟨_,_,_,_,_,_,_,_,_,_,_,_,_,rfl,⟨(uq J.f0),(uq J.f1),(uq J.f2),(uq J.f3),(uq J.f4),(uq J.f5),(uq J.f6),(uq J.f7),(uq J.f8),(uq J.f9),(fun h=>⟨_,rfl,fun h2=>by rw [upd_self] at h2;cases h2⟩),(uf hL12),(uq J.n12),(hB5),(fun h=>by rw [upd_self] at h;cases h),(fun _=>by rw [List.length_append,List.map_append];exact hown')⟩⟩
   ·skip
    go_simp
    exact hK _ _ ⟨_,_,_,_,_,_,_,_,_,_,_,_,_,rfl,⟨(uq J.f0),(uq J.f1),(uq J.f2),(uq J.f3),(uq J.f4),(uq J.f5),(uq J.f6),(uq J.f7),(uq J.f8),(uq J.f9),(ub J.f10),(fun _=>rfl),(fun h=>by rw [upd_self] at h;cases h),(J.bel),(uq J.own),(uq J.ownA)⟩⟩
set_option maxRecDepth 100000 in
set_option maxHeartbeats 1000000 in
theorem specl6Of (ac ar:Option Addr) (cc cr:Nat) (t:T) (q:Int) (C:Nat) (hC:C≤88) (w:World) {z:Nat} (hc:ColsAt w z (.slice ac t.cols.length cc) t.cols) :
  Calls Tryz.prog 86 #[.agg #[.slice ac t.cols.length cc,.int .i64 t.head,.int .i64 t.foot,.slice ar t.rows.length cr,.int .i64 t.gap],.int .i64 q,.int .i64 (C:Int)] w fun e w'=>∃ v,e=.returned v∧RowI w' w.heap.size w'.heap.size v (oneL (kindP t q) C)∧Below w.heap.size w w':=by
 obtain ⟨i0,hi,hz0,hz1,hz2⟩:=info_parts infoIc
 have hf0:=field0
 have HC:=Hd hc
 have HLn:=Hd (oneL_len (kindP t q) C)
 have K1:=k_alloc (Below.refl w.heap.size w) (.cells #[.slice ac t.cols.length cc,.int .i64 t.head,.int .i64 t.foot,.slice ar t.rows.length cr,.int .i64 t.gap] 26)
 have X1:=newestB w (.cells #[.slice ac t.cols.length cc,.int .i64 t.head,.int .i64 t.foot,.slice ar t.rows.length cr,.int .i64 t.gap] 26)
 have hs1:(w.alloc (.cells #[.slice ac t.cols.length cc,.int .i64 t.head,.int .i64 t.foot,.slice ar t.rows.length cr,.int .i64 t.gap] 26)).heap.size=w.heap.size+1:=by simp
 have HR0:=Hd (row_lit (w.alloc (.cells #[.slice ac t.cols.length cc,.int .i64 t.head,.int .i64 t.foot,.slice ar t.rows.length cr,.int .i64 t.gap] 26)) (w.heap.size+1) (by omega))
 have HK0:=Hd (k_alloc K1 (.cells #[] 3))
 have HX0:=Hd ((Below.heap_alloc (w.alloc (.cells #[.slice ac t.cols.length cc,.int .i64 t.head,.int .i64 t.foot,.slice ar t.rows.length cr,.int .i64 t.gap] 26)) (.cells #[] 3) w.heap.size (by omega)).trans X1)
 rw [hs1] at HR0
 clear hc K1 X1
 go_enter Tryz.func86,Tryz.ntmps86
 go_wp2_with fail
 go_loopw [7,8] (fun o i W=>∃ k:Nat,i=.int .i64 k∧k≤C∧Hid (W.ownsRow (w.heap.size+1) 3 1 o ((oneL (kindP t q) C).take k).length (((oneL (kindP t q) C).take k).map (Value.int .i64)))∧Hid (Below w.heap.size w W)∧Hid (W.heap[w.heap.size]?=some (.cells #[.slice ac t.cols.length cc,.int .i64 t.head,.int .i64 t.foot,.slice ar t.rows.length cr,.int .i64 t.gap] 26))) (fun _ i _=>C - (intOf i).toNat)
 case atStart=>exact ⟨0,rfl,Nat.zero_le _,by rw [List.take_zero];exact HR0.out.owns,HK0,HX0⟩
 case round =>
  clear HR0 HK0 HX0
  obtain ⟨k,rfl,hk,HO,HB,HX⟩:=hrel
  by_cases hlt:k < C
  case neg =>
   obtain rfl:k=C:=by omega
   have HR:=Hd (RowI.of_owns HO.out)
   rw [show (oneL (kindP t q) k).take k=oneL (kindP t q) k by rw [List.take_of_length_le (by rw [HLn.out];exact Nat.le_refl _)]] at HR
   go_wp2
   go_ret
   exact ⟨_,rfl,HR.out.base (by omega) (Nat.le_refl _),HB.out⟩
  have hwz:w.heap.size < wr.heap.size:=(bL HX.out)
  have b0:wr.cell? ⟨w.heap.size,0,none⟩=some (.slice ac t.cols.length cc):=cellB HX.out
  have b1:wr.cell? ⟨w.heap.size,1,none⟩=some (.int .i64 t.head):=cellB HX.out
  have b2:wr.cell? ⟨w.heap.size,2,none⟩=some (.int .i64 t.foot):=cellB HX.out
  have b3:wr.cell? ⟨w.heap.size,3,none⟩=some (.slice ar t.rows.length cr):=cellB HX.out
  have b4:wr.cell? ⟨w.heap.size,4,none⟩=some (.int .i64 t.gap):=cellB HX.out
  have KS:=Hd (specl5Said ac ar cc cr t (k:Int) (by omega) wr (HC.out.kept HB.out))
  have hkq:=kind_eq t q k
  have hol:((oneL (kindP t q) C).take k).length≤k:=by rw [List.length_take];omega
  have HT:Hid ((oneL (kindP t q) C).take (k+1)=(oneL (kindP t q) C).take k ++ [if kindP t q k=true then (1:Int) else 0]):=by rw [Hid,take_nextI (by rw [HLn.out];exact hlt),oneL_get hlt]
  generalize sd t.cols k=p at KS hkq
  generalize (oneL (kindP t q) C).take k=xs at HO HT hol
  cases hp:kindP t q k with
  | false =>
   rw [hp] at hkq HT
   simp only [Bool.false_eq_true,if_false] at HT
   clear hp
   go_wp2_with fail
   refine KS.out.mono ?_
   rintro e w1 ⟨rfl,hb1⟩
   have HB1:=Hd (k_trans HB.out hb1)
   have HX1:=Hd ((hb1.block w.heap.size hwz).trans HX.out)
   have hO4:=(RowI.of_owns HO.out |>.kept (fun j h0 _ _=>hb1.block j h0)).owns
   have hsz:w.heap.size+1≤w1.heap.size:=by have:=hb1.size;omega
   clear hb1 b0 b1 b2 b3 b4 HO HB HX
   go_wp2_with (at_builtin;refine wpList_append_own _ rfl _ _ 32 rfl (w.heap.size+1) 3 i0 (.int .i64 0) 1 8 Tryz.underlying32 hi hz0 hz1 hz2 rfl (by decide) _ _ _ rfl (hO4.alloc _) ⟨w1.heap.size,0,none⟩ 1 1 [.int .i64 0] rfl rfl ?c1 ?c2 ?c3 ?c4 ?c5 ?_)
   case c1 =>
    intro i u hi
    match i,hi with
    | 0,hi=>simp at hi;subst hi;simp [Addr.add]
   case c2=>intro u hu;simp at hu;subst hu;rfl
   case c3=>unfold maxLen;omega
   case c4=>omega
   case c5=>simp;omega
   intro v' w5 hown' hgrow' _
   obtain ⟨hB5,hX5⟩:=app_keeps (Nat.le_succ _) hO4 HB1.out hgrow'
   have HB5:=Hd hB5
   have HX5:=Hd ((hX5 w.heap.size (Nat.lt_succ_self _) (by omega)).trans HX1.out)
   have HO5:Hid (w5.ownsRow (w.heap.size+1) 3 1 v' (xs ++ [0]).length ((xs ++ [0]).map (Value.int .i64))):=by rw [List.length_append,List.map_append];exact hown'
   obtain ⟨g',cap'',rfl⟩:=Joins.ownsRow_form hown' (by omega)
   clear hown' hgrow' hO4 hB5 hX5 HB1 HX1
   go_wp2
   go_roundw
   case rel=>exact ⟨k+1,by go_num,by omega,by rw [HT.out];exact HO5,HB5,HX5⟩
   case measure=>simp [intOf];omega
  | true =>
   rw [hp] at hkq HT
   simp only [if_true] at HT
   clear hp
   go_wp2_with fail
   refine KS.out.mono ?_
   rintro e w1 ⟨rfl,hb1⟩
   have HB1:=Hd (k_trans HB.out hb1)
   have HX1:=Hd ((hb1.block w.heap.size hwz).trans HX.out)
   have hO4:=(RowI.of_owns HO.out |>.kept (fun j h0 _ _=>hb1.block j h0)).owns
   have hsz:w.heap.size+1≤w1.heap.size:=by have:=hb1.size;omega
   clear hb1 b0 b1 b2 b3 b4 HO HB HX
   go_wp2_with (at_builtin;refine wpList_append_own _ rfl _ _ 32 rfl (w.heap.size+1) 3 i0 (.int .i64 0) 1 8 Tryz.underlying32 hi hz0 hz1 hz2 rfl (by decide) _ _ _ rfl (hO4.alloc _) ⟨w1.heap.size,0,none⟩ 1 1 [.int .i64 1] rfl rfl ?c1 ?c2 ?c3 ?c4 ?c5 ?_)
   case c1 =>
    intro i u hi
    match i,hi with
    | 0,hi=>simp at hi;subst hi;simp [Addr.add]
   case c2=>intro u hu;simp at hu;subst hu;rfl
   case c3=>unfold maxLen;omega
   case c4=>omega
   case c5=>simp;omega
   intro v' w5 hown' hgrow' _
   obtain ⟨hB5,hX5⟩:=app_keeps (Nat.le_succ _) hO4 HB1.out hgrow'
   have HB5:=Hd hB5
   have HX5:=Hd ((hX5 w.heap.size (Nat.lt_succ_self _) (by omega)).trans HX1.out)
   have HO5:Hid (w5.ownsRow (w.heap.size+1) 3 1 v' (xs ++ [1]).length ((xs ++ [1]).map (Value.int .i64))):=by rw [List.length_append,List.map_append];exact hown'
   obtain ⟨g',cap'',rfl⟩:=Joins.ownsRow_form hown' (by omega)
   clear hown' hgrow' hO4 hB5 hX5 HB1 HX1
   go_wp2
   go_roundw
   case rel=>exact ⟨k+1,by go_num,by omega,by rw [HT.out];exact HO5,HB5,HX5⟩
   case measure=>simp [intOf];omega
end Go.Proofs.YtggmjiddadjilaeGreat
