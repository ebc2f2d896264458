/-
  PROVED HERE: the program's QryRects at a drawn table and any width: where each cell is, in memory of its own; nothing that was in memory is turned. Also: 1 more texts of the same proof.
-/
import Derived.Test.YtojogjlblgcioanGreatC36
import Derived.Test.YtojogjlblgcioanGreatC40
import Derived.Test.YtojogjlblgcioanGreatC32
import Derived.Test.YtojogjlblgcioanGreatC26
import Derived.Test.YtojogjlblgcioanGreatC17
import Derived.Test.YtojogjlblgcioanGreatC37
import Derived.Deep.DeepCutAuto
import Derived.Deep.RegionWith
import Derived.Deep.QuietTactic
import Derived.BigQuiet
namespace Go.Proofs.YtojogjlblgcioanGreat
open Go.RowKit Go.BigFrame
structure QrJ (W1 W3:World) (BB:Nat) (ac ar ag:Option Addr) (cc cr cg:Nat) (t:T) (x:GC) (U:Value) (qs:List QR) (q:QR) (va vb:Value) (k tb gb cb b off:Nat) (L:Nat→Bool) (W:World) (v7 v28 v29 v30 v31 v32 v33 v34 v35 v36 v37 v38 v39 v40 v41 v42 v43 v44 v45 v46 v47 v48 v49:Value):Prop where
 f0:L 0=true→v28=U
 f1:L 1=true→v29=va
 f2:L 2=true→v30=.pointer (some ⟨tb,4,none⟩)
 f3:L 3=true→v31=.int .i64 t.gap
 f4:L 4=true→v32=.pointer (some ⟨cb,1,none⟩)
 f5:L 5=true→v33=.int .i64 x.col
 f6:L 6=true→v34=.int .i64 q.x
 f7:L 7=true→v35=vb
 f8:L 8=true→v36=.pointer (some ⟨cb,0,none⟩)
 f9:L 9=true→v37=.int .i64 x.row
 f10:L 10=true→v38=.int .i64 q.y
 f11:L 11=true→v39=va
 f12:L 12=true→v40=.pointer (some ⟨tb,4,none⟩)
 f13:L 13=true→v41=.int .i64 t.gap
 f14:L 14=true→v42=.agg #[.int .i64 x.row,.int .i64 x.col,.int .i64 x.rows,.int .i64 x.cols,.int .i64 x.ins]
 f15:L 15=true→v43=.int .i64 q.w
 f16:L 16=true→v44=vb
 f17:L 17=true→v45=.agg #[.int .i64 x.row,.int .i64 x.col,.int .i64 x.rows,.int .i64 x.cols,.int .i64 x.ins]
 f18:L 18=true→v46=.int .i64 q.h
 f19:L 19=true→v47=.agg #[.int .i64 q.x,.int .i64 q.y,.int .i64 q.w,.int .i64 q.h]
 f20:L 20=true→∃ g,v48=.slice (some ⟨g,0,none⟩) 1 1∧(L 21=false→QrIs W g 0 q)
 fA:L 22=true→v7=v49
 nA:L 22=false→v7=U
 b4:L 21=false→Below W3.heap.size W3 W
 bel:Below W1.heap.size W1 W
 ownA:L 21=true→OwnQ W BB v49 (qs ++ [q])
structure Qr3J (ac ar:Option Addr) (cc cr:Nat) (t:T) (width:Int) (l rs:List Int) (W3:World) (L:Nat→Bool) (W:World) (v14 v15 v16 v17 v18 v19 v5 v6:Value):Prop where
 f0:L 0=true→v14=.agg #[.slice ac t.cols.length cc,.int .i64 t.head,.int .i64 t.foot,.slice ar t.rows.length cr,.int .i64 t.gap]
 f1:L 1=true→v15=.int .i64 width
 f2:L 2=true→IntsAt W v16 l
 f3:L 3=true→v17=.agg #[.slice ac t.cols.length cc,.int .i64 t.head,.int .i64 t.foot,.slice ar t.rows.length cr,.int .i64 t.gap]
 f4:L 4=true→v18=.int .i64 width
 f5:L 5=true→IntsAt W v19 rs
 f6:L 6=true→IntsAt W v5 l
 f7:L 7=true→IntsAt W v6 rs
 b:Below W3.heap.size W3 W
set_option maxRecDepth 100000 in
set_option maxHeartbeats 4000000 in
theorem implQryRects (ac ar:Option Addr) (cc cr:Nat) (t:T) (hD:Drawn t) (width:Int) (w:World) {z:Nat} (hc:ColsAt w z (.slice ac t.cols.length cc) t.cols) (hr:RowsAt w z (.slice ar t.rows.length cr) t.rows) :
  Calls Tryz.prog 22 #[.agg #[.slice ac t.cols.length cc,.int .i64 t.head,.int .i64 t.foot,.slice ar t.rows.length cr,.int .i64 t.gap],.int .i64 width] w fun e w'=>∃ v,e=.returned v∧QsAt w' w.heap.size v (rectsT t width)∧Below w.heap.size w w':=by
 have hmx:Tryz.prog.follows .mixedOrders=true:=by kernel_rfl
 have hfld:=field_cells
 obtain ⟨i0,hi0,hz0,hz1,hz2⟩:=info_parts infoQR
 have HK0:=Hd (k_alloc (Below.refl w.heap.size w) (.cells #[.slice ac t.cols.length cc,.int .i64 t.head,.int .i64 t.foot,.slice ar t.rows.length cr,.int .i64 t.gap] 26))
 have HX0:=Hd (newestB w (.cells #[.slice ac t.cols.length cc,.int .i64 t.head,.int .i64 t.foot,.slice ar t.rows.length cr,.int .i64 t.gap] 26))
 have HT0:Hid (TA w z ac ar cc cr t):=⟨hc,hr⟩
 have hs0:(w.alloc (.cells #[.slice ac t.cols.length cc,.int .i64 t.head,.int .i64 t.foot,.slice ar t.rows.length cr,.int .i64 t.gap] 26)).heap.size=w.heap.size+1:=by simp
 clear hc hr
 go_enter Tryz.func22,Tryz.ntmps22
 go_upto_region 1 with fail
 generalize w.alloc (.cells #[.slice ac t.cols.length cc,.int .i64 t.head,.int .i64 t.foot,.slice ar t.rows.length cr,.int .i64 t.gap] 26)=W0 at HK0 HX0 hs0 ⊢
 obtain ⟨b0,b1,b2,b3,b4⟩:=fiveO HX0.out
 have KM:=Hd (implmayBeWide ac ar cc cr t width _ (HT0.out.kept HK0.out).1 (HT0.out.kept HK0.out).2)
 cases hmay:(tblB t && inB width 0 300) with
 | false =>
  have HW:Hid (rectsT t width=[]):=by rw [Hid,rectsT,if_neg (by rw [hmay];simp)]
  rw [hmay] at KM
  clear hmay
  go_wp2_with fail
  refine KM.out.mono ?_
  rintro e w2 ⟨rfl,hb2⟩
  have HK2:=Hd (k_trans HK0.out hb2)
  clear hb2 KM b0 b1 b2 b3 b4
  go_wp2
  go_ret
  exact ⟨_,rfl,by rw [HW.out];exact ⟨none,0,rfl,Nat.le_refl _,Nat.zero_le _,fun i hi=>absurd hi (Nat.not_lt_zero _)⟩,HK2.out⟩
 | true =>
  have HW:Hid (rectsT t width=rectsL t (widL t width) (rowsOfT t (widL t width)) (gOf t).cells):=by rw [Hid,rectsT,if_pos hmay]
  rw [hmay] at KM
  have HWT:Hid (widT t width=widL t width):=by rw [Hid,widT,if_pos hmay]
  have HRT:Hid (rowsT t width=rowsOfT t (widL t width)):=by rw [Hid,rowsT,if_pos hmay]
  rw [Bool.and_eq_true] at hmay
  obtain ⟨htk,hin⟩:=hmay
  have hw:0≤width∧width≤300:=by simpa [inB] using hin
  obtain ⟨_,hlw,_⟩:=acr_wid hD htk hw
  obtain ⟨_,hC88,_⟩:=acr_least hD htk
  have h40:=gLen hD
  have hR8:=tRows hD htk
  have HLw:=Hd hlw
  have hlr:(rowsOfT t (widL t width)).length=t.rows.length:=by rw [rowsOfT,rowsL_len]
  have HLr:=Hd hlr
  have hl1:(widL t width).length≤1048576:=by rw [hlw];omega
  have hl2:(rowsOfT t (widL t width)).length≤1048576:=by rw [hlr];omega
  have KC:=Hd (fun W (h:TA W z ac ar cc cr t)=>implWidCols ac ar cc cr t hD width W h.1 h.2)
  have KR:=Hd (fun W (h:TA W z ac ar cc cr t)=>implHgtRows ac ar cc cr t hD width W h.1 h.2)
  have KG:=Hd (fun W (h:TA W z ac ar cc cr t)=>implGrdOf ac ar cc cr t hD W h.1 h.2)
  have HGk:=Hd (gOf_gok hD)
  rw [HWT.out] at KC
  rw [HRT.out] at KR
  generalize rowsOfT t (widL t width)=rs at KR HW HLr hl2
  generalize widL t width=l at KC HW HLw hl1
  clear hlw hlr hD htk hin hw HWT HRT
  go_wp2_with fail
  refine KM.out.mono ?_
  rintro e w2 ⟨rfl,hb2⟩
  have HX2:=Hd ((hb2.block w.heap.size (by omega)).trans HX0.out)
  have HK2:=Hd (k_trans HK0.out hb2)
  have hz2':w.heap.size < w2.heap.size:=by have:=hb2.size;omega
  clear hb2 KM b0 b1 b2 b3 b4 HX0 HK0
  go_upto_region 3 with fail
  have HX:=HX2
  have hl0:=hz2'
  have HW3:=Hd (HT0.out.kept HK2.out)
  have KC2:=Hd (fun W (h:Below w2.heap.size w2 W)=>KC.out W (HW3.out.kept h))
  have KR2:=Hd (fun W (h:Below w2.heap.size w2 W)=>KR.out W (HW3.out.kept h))
  clear KC KR HW3
  refine wp_region_inv2 (fun L act W=>∃ v14 v15 v16 v17 v18 v19 v5 v6:Value,act=⟨#[.agg #[.slice ac t.cols.length cc,.int .i64 t.head,.int .i64 t.foot,.slice ar t.rows.length cr,.int .i64 t.gap],.int .i64 width,.pointer (some ⟨w.heap.size,0,none⟩),undef,.slice none 0 0,v5,v6,undef,undef,undef,.agg #[.slice ac t.cols.length cc,.int .i64 t.head,.int .i64 t.foot,.slice ar t.rows.length cr,.int .i64 t.gap],.int .i64 width,.bool true,.bool false,v14,v15,v16,v17,v18,v19,undef,undef,undef,undef,undef,undef,undef,undef,undef,undef,undef,undef,undef,undef,undef,undef,undef,undef,undef,undef,undef,undef,undef,undef,undef,undef,undef,undef,undef,undef,undef,undef],[]⟩∧Qr3J ac ar cc cr t width l rs w2 L W v14 v15 v16 v17 v18 v19 v5 v6) hmx (by kernel_rfl) ?hs ?hd ?h0
  case h0=>exact ⟨_,_,_,_,_,_,_,_,rfl,⟨(fun h=>by cases h),(fun h=>by cases h),(fun h=>by cases h),(fun h=>by cases h),(fun h=>by cases h),(fun h=>by cases h),(fun h=>by cases h),(fun h=>by cases h),k_drew (Below.refl _ _)⟩⟩
  case hd =>
   intro L act W hJ hall
   obtain ⟨v14,v15,v16,v17,v18,v19,v5,v6,ha,J⟩:=hJ
   subst ha
   obtain rfl:=J.f0 (hall 0 (by decide))
   obtain rfl:=J.f1 (hall 1 (by decide))
   obtain rfl:=J.f3 (hall 3 (by decide))
   obtain rfl:=J.f4 (hall 4 (by decide))
   have hI5:=J.f6 (hall 6 (by decide))
   have hI6:=J.f7 (hall 7 (by decide))
   obtain ⟨a16,c16,rfl,_⟩:=(J.f2 (hall 2 (by decide))).form
   obtain ⟨a19,c19,rfl,_⟩:=(J.f5 (hall 5 (by decide))).form
   obtain ⟨a5,c5,rfl,_⟩:=hI5.form
   obtain ⟨a6,c6,rfl,_⟩:=hI6.form
   have HX3:=Hd ((J.b.block w.heap.size hz2').trans HX2.out)
   have HK3:=Hd (k_trans HK2.out J.b)
   have hz3:w.heap.size < W.heap.size:=by have:=J.b.size;omega
   have HI5:=Hd hI5
   have HI6:=Hd hI6
   clear J hall hI5 hI6 HX HX2 HK2 KC2 KR2 hl0
   obtain ⟨b0,b1,b2,b3,b4⟩:=fiveO HX3.out
   go_wp2_with fail
   refine (KG.out _ (HT0.out.kept HK3.out)).mono ?_
   rintro e W1 ⟨vg,rfl,hO4,hb4⟩
   obtain ⟨ag,cg,rfl⟩:=own_slice hO4
   have HG1:=Hd (hO4.at HGk.out)
   have HX1:=Hd ((hb4.block w.heap.size hz3).trans HX3.out)
   have HK1:=Hd (k_trans HK3.out hb4)
   have HI51:=Hd (HI5.out.kept hb4)
   have HI61:=Hd (HI6.out.kept hb4)
   have hz1':w.heap.size < W1.heap.size:=by have:=hb4.size;omega
   have HLe:=Hd (rectsL_len t l rs (gOf t).cells)
   have HLn:=Hd (fun k (h:k < (gOf t).cells.length)=>rectsL_next t l rs h)
   clear hb4 hO4 b0 b1 b2 b3 b4 HX3 HK3 HI5 HI6
   go_wp2_with fail
   go_loopw [7,24] (fun o i W=>∃ (k:Nat),i=.int .i64 k∧k≤(gOf t).cells.length∧Hid (OwnQ W W1.heap.size o ((rectsL t l rs (gOf t).cells).take k))∧Hid (Below W1.heap.size W1 W)) (fun _ i _=>(gOf t).cells.length - (intOf i).toNat)
   case atStart=>exact ⟨0,rfl,Nat.zero_le _,World.ownsRow_nil _ _ _ _,Below.refl _ _⟩
   case round =>
    obtain ⟨k,rfl,hk,HO,HBr⟩:=hrel
    by_cases hkl:k < (gOf t).cells.length
    case neg =>
     obtain rfl:k=(gOf t).cells.length:=by omega
     rw [← HLe.out,List.take_length] at HO
     have HF:=Hd (HO.out.at.base (z':=w.heap.size) (by omega))
     have HK:=Hd (HK1.out.trans (HBr.out.mono (by omega)))
     go_wp2
     go_ret
     exact ⟨_,rfl,by rw [HW.out];exact HF.out,HK.out⟩
    obtain ⟨b,off,cap',e',hc1,hc2,hbl,hx,hxo⟩:=At.get (HG1.out.kept HBr.out) hkl
    simp only [Value.slice.injEq,true_and] at e'
    obtain ⟨rfl,rfl⟩:=e'
    have HNx:=Hd (HLn.out k hkl)
    have hql:((rectsL t l rs (gOf t).cells).take k).length≤40:=by rw [List.length_take,HLe.out];omega
    generalize (rectsL t l rs (gOf t).cells).take k=qs at HO HNx hql
    generalize (gOf t).cells.getD k dG=x at hx hxo HNx
    obtain ⟨x0,x1,x2,x3,x4⟩:=hx
    unfold maxLen at hc2
    go_upto_region 8 with fail
    have HB4:=Hd (k_alloc (Below.refl wr.heap.size wr) (.cells #[.int .i64 x.row,.int .i64 x.col,.int .i64 x.rows,.int .i64 x.cols,.int .i64 x.ins] 78))
    have HB1:=Hd (k_trans HBr.out HB4.out)
    have HC4:=Hd (newestB wr (.cells #[.int .i64 x.row,.int .i64 x.col,.int .i64 x.rows,.int .i64 x.cols,.int .i64 x.ins] 78))
    have hlc:wr.heap.size < (wr.alloc (.cells #[.int .i64 x.row,.int .i64 x.col,.int .i64 x.rows,.int .i64 x.cols,.int .i64 x.ins] 78)).heap.size:=by simp
    have HX:=Hd ((HB1.out.block w.heap.size hz1').trans HX1.out)
    have hlt0:w.heap.size < (wr.alloc (.cells #[.int .i64 x.row,.int .i64 x.col,.int .i64 x.rows,.int .i64 x.cols,.int .i64 x.ins] 78)).heap.size:=(bL HX.out)
    replace HO:Hid (OwnQ (wr.alloc (.cells #[.int .i64 x.row,.int .i64 x.col,.int .i64 x.rows,.int .i64 x.cols,.int .i64 x.ins] 78)) W1.heap.size u7 qs):=ownsRow_keptS HO.out HB4.out
    generalize wr.alloc (.cells #[.int .i64 x.row,.int .i64 x.col,.int .i64 x.rows,.int .i64 x.cols,.int .i64 x.ins] 78)=W3 at HB4 HB1 HC4 hlc HX hlt0 HO ⊢
    generalize wr.heap.size=cb at HC4 hlc ⊢
    have KX:=Hd (fun W (h:Below W3.heap.size W3 W)=>implWidAt _ l t.gap x.col W ((HI51.out.kept HB1.out).kept h))
    have KY:=Hd (fun W (h:Below W3.heap.size W3 W)=>implHgtAt _ rs x.row W ((HI61.out.kept HB1.out).kept h))
    have KW:=Hd (fun W (h:Below W3.heap.size W3 W)=>implWidCell _ l hl1 t.gap x hxo W ((HI51.out.kept HB1.out).kept h))
    have KH:=Hd (fun W (h:Below W3.heap.size W3 W)=>implHgtCell _ rs hl2 x hxo W ((HI61.out.kept HB1.out).kept h))
    obtain ⟨q,hq⟩:∃ q,q=rectOf t l rs x:=⟨_,rfl⟩
    have ex:atV l t.gap x.col=q.x:=by rw [hq];rfl
    have ey:atV rs 0 x.row=q.y:=by rw [hq];rfl
    have ew:cellV l t.gap x=q.w:=by rw [hq];rfl
    have eh:highV rs x=q.h:=by rw [hq];rfl
    rw [ex] at KX
    rw [ey] at KY
    rw [ew] at KW
    rw [eh] at KH
    rw [← hq] at HNx
    clear ex ey ew eh hq hxo HLn HLe x0 x1 x2 x3 x4 HBr HB4
    refine wp_region_inv2 (fun L act W=>∃ v7 v28 v29 v30 v31 v32 v33 v34 v35 v36 v37 v38 v39 v40 v41 v42 v43 v44 v45 v46 v47 v48 v49:Value,act=⟨#[.agg #[.slice ac t.cols.length cc,.int .i64 t.head,.int .i64 t.foot,.slice ar t.rows.length cr,.int .i64 t.gap],.int .i64 width,.pointer (some ⟨w.heap.size,0,none⟩),undef,.slice none 0 0,.slice a5 l.length c5,.slice a6 rs.length c6,v7,undef,.pointer (some ⟨cb,0,none⟩),.agg #[.slice ac t.cols.length cc,.int .i64 t.head,.int .i64 t.foot,.slice ar t.rows.length cr,.int .i64 t.gap],.int .i64 width,.bool true,.bool false,.agg #[.slice ac t.cols.length cc,.int .i64 t.head,.int .i64 t.foot,.slice ar t.rows.length cr,.int .i64 t.gap],.int .i64 width,.slice a16 l.length c16,.agg #[.slice ac t.cols.length cc,.int .i64 t.head,.int .i64 t.foot,.slice ar t.rows.length cr,.int .i64 t.gap],.int .i64 width,.slice a19 rs.length c19,.agg #[.slice ac t.cols.length cc,.int .i64 t.head,.int .i64 t.foot,.slice ar t.rows.length cr,.int .i64 t.gap],.agg #[.int .i64 (gOf t).rows,.int .i64 (gOf t).cols,.slice (some ⟨b,off,none⟩) (gOf t).cells.length cg],.slice (some ⟨b,off,none⟩) (gOf t).cells.length cg,.int .i64 ((gOf t).cells.length:Int),.int .i64 (k:Int),.bool true,.pointer (some ⟨b,off+k * 5,none⟩),.agg #[.int .i64 x.row,.int .i64 x.col,.int .i64 x.rows,.int .i64 x.cols,.int .i64 x.ins],v28,v29,v30,v31,v32,v33,v34,v35,v36,v37,v38,v39,v40,v41,v42,v43,v44,v45,v46,v47,v48,v49,u50,undef],[]⟩∧QrJ W1 W3 W1.heap.size ac ar (some ⟨b,off,none⟩) cc cr cg t x u7 qs q (.slice a5 l.length c5) (.slice a6 rs.length c6) k w.heap.size 0 cb b off L W v7 v28 v29 v30 v31 v32 v33 v34 v35 v36 v37 v38 v39 v40 v41 v42 v43 v44 v45 v46 v47 v48 v49) hmx (by kernel_rfl) ?hs2 ?hd2 ?h02
    case h02=>exact ⟨_,_,_,_,_,_,_,_,_,_,_,_,_,_,_,_,_,_,_,_,_,_,_,rfl,⟨(fun h=>by cases h),(fun h=>by cases h),(fun h=>by cases h),(fun h=>by cases h),(fun h=>by cases h),(fun h=>by cases h),(fun h=>by cases h),(fun h=>by cases h),(fun h=>by cases h),(fun h=>by cases h),(fun h=>by cases h),(fun h=>by cases h),(fun h=>by cases h),(fun h=>by cases h),(fun h=>by cases h),(fun h=>by cases h),(fun h=>by cases h),(fun h=>by cases h),(fun h=>by cases h),(fun h=>by cases h),(fun h=>by cases h),(fun h=>by cases h),(fun _=>rfl),(fun _=>k_drew (Below.refl _ _)),k_drew HB1.out,(fun h=>by cases h)⟩⟩
    case hd2 =>
     intro L act W hJ hall
     obtain ⟨v7,v28,v29,v30,v31,v32,v33,v34,v35,v36,v37,v38,v39,v40,v41,v42,v43,v44,v45,v46,v47,v48,v49,ha,J⟩:=hJ
     subst ha
     obtain rfl:=J.fA (hall 22 (by decide))
     have HO5:=Hd (J.ownA (hall 21 (by decide)))
     have HB5:=Hd J.bel
     obtain ⟨g',cap'',rfl⟩:=Joins.ownsRow_form HO5.out (by simp)
     clear J hall
     go_wp2
     go_roundw
     case rel=>exact ⟨k+1,by go_num,by omega,by rw [HNx.out];exact HO5,HB5⟩
     case measure=>simp [intOf];omega
    case hs2 =>
     intro L act W i o hJ hcl ho hLi haft K hK
     obtain ⟨v7,v28,v29,v30,v31,v32,v33,v34,v35,v36,v37,v38,v39,v40,v41,v42,v43,v44,v45,v46,v47,v48,v49,ha,J⟩:=hJ
     subst ha
     have hi':i < 23:=by
      have:=(bL ho)
      simpa using this
     rcases (by omega:i=0∨i=1∨i=2∨i=3∨i=4∨i=5∨i=6∨i=7∨i=8∨i=9∨i=10∨i=11∨i=12∨i=13∨i=14∨i=15∨i=16∨i=17∨i=18∨i=19∨i=20∨i=21∨i=22) with rfl | rfl | rfl | rfl | rfl | rfl | rfl | rfl | rfl | rfl | rfl | rfl | rfl | rfl | rfl | rfl | rfl | rfl | rfl | rfl | rfl | rfl | rfl
     all_goals
      simp only [List.getElem?_toArray,List.getElem?_cons_zero,List.getElem?_cons_succ,Option.some.injEq] at ho
      subst ho
      clear hi'
     ·skip
      have hAp:L 21=false:=(hcl 21 0 (by kernel_rfl) hLi)
      have hAs:L 22=false:=(hcl 22 21 (by kernel_rfl) (hcl 21 0 (by kernel_rfl) hLi))
      have B4:=J.b4 hAp
      obtain rfl:=J.nA hAs
      go_simp
      exact hK _ _ ⟨_,_,_,_,_,_,_,_,_,_,_,_,_,_,_,_,_,_,_,_,_,_,_,rfl,⟨(fun _=>rfl),(uq J.f1),(uq J.f2),(uq J.f3),(uq J.f4),(uq J.f5),(uq J.f6),(uq J.f7),(uq J.f8),(uq J.f9),(uq J.f10),(uq J.f11),(uq J.f12),(uq J.f13),(uq J.f14),(uq J.f15),(uq J.f16),(uq J.f17),(uq J.f18),(uq J.f19),(ub J.f20),(uf hAs),(uq J.nA),(fun _=>B4),J.bel,(uf hAp)⟩⟩
     ·skip
      have hAp:L 21=false:=(hcl 21 20 (by kernel_rfl) (hcl 20 19 (by kernel_rfl) (hcl 19 6 (by kernel_rfl) (hcl 6 1 (by kernel_rfl) hLi))))
      have hAs:L 22=false:=(hcl 22 21 (by kernel_rfl) (hcl 21 20 (by kernel_rfl) (hcl 20 19 (by kernel_rfl) (hcl 19 6 (by kernel_rfl) (hcl 6 1 (by kernel_rfl) hLi)))))
      have B4:=J.b4 hAp
      go_simp
      exact hK _ _ ⟨_,_,_,_,_,_,_,_,_,_,_,_,_,_,_,_,_,_,_,_,_,_,_,rfl,⟨(uq J.f0),(fun _=>rfl),(uq J.f2),(uq J.f3),(uq J.f4),(uq J.f5),(uq J.f6),(uq J.f7),(uq J.f8),(uq J.f9),(uq J.f10),(uq J.f11),(uq J.f12),(uq J.f13),(uq J.f14),(uq J.f15),(uq J.f16),(uq J.f17),(uq J.f18),(uq J.f19),(ub J.f20),(uf hAs),(uq J.nA),(fun _=>B4),J.bel,(uf hAp)⟩⟩
     ·skip
      have hAp:L 21=false:=(hcl 21 20 (by kernel_rfl) (hcl 20 19 (by kernel_rfl) (hcl 19 6 (by kernel_rfl) (hcl 6 3 (by kernel_rfl) (hcl 3 2 (by kernel_rfl) hLi)))))
      have hAs:L 22=false:=(hcl 22 21 (by kernel_rfl) (hcl 21 20 (by kernel_rfl) (hcl 20 19 (by kernel_rfl) (hcl 19 6 (by kernel_rfl) (hcl 6 3 (by kernel_rfl) (hcl 3 2 (by kernel_rfl) hLi))))))
      have B4:=J.b4 hAp
      go_simp
      exact hK _ _ ⟨_,_,_,_,_,_,_,_,_,_,_,_,_,_,_,_,_,_,_,_,_,_,_,rfl,⟨(uq J.f0),(uq J.f1),(fun _=>rfl),(uq J.f3),(uq J.f4),(uq J.f5),(uq J.f6),(uq J.f7),(uq J.f8),(uq J.f9),(uq J.f10),(uq J.f11),(uq J.f12),(uq J.f13),(uq J.f14),(uq J.f15),(uq J.f16),(uq J.f17),(uq J.f18),(uq J.f19),(ub J.f20),(uf hAs),(uq J.nA),(fun _=>B4),J.bel,(uf hAp)⟩⟩
     ·skip
      have hAp:L 21=false:=(hcl 21 20 (by kernel_rfl) (hcl 20 19 (by kernel_rfl) (hcl 19 6 (by kernel_rfl) (hcl 6 3 (by kernel_rfl) hLi))))
      have hAs:L 22=false:=(hcl 22 21 (by kernel_rfl) (hcl 21 20 (by kernel_rfl) (hcl 20 19 (by kernel_rfl) (hcl 19 6 (by kernel_rfl) (hcl 6 3 (by kernel_rfl) hLi)))))
      have B4:=J.b4 hAp
      obtain ⟨q0,q1,q2,q3,q4⟩:=fiveO ((B4.block _ hlt0).trans HX.out)
      have hl:=Nat.lt_of_lt_of_le hlt0 B4.size
      obtain rfl:=J.f2 (haft ⟨2,.data⟩ (by simp) rfl)
      go_simp
      exact hK _ _ ⟨_,_,_,_,_,_,_,_,_,_,_,_,_,_,_,_,_,_,_,_,_,_,_,rfl,⟨(uq J.f0),(uq J.f1),(uq J.f2),(fun _=>rfl),(uq J.f4),(uq J.f5),(uq J.f6),(uq J.f7),(uq J.f8),(uq J.f9),(uq J.f10),(uq J.f11),(uq J.f12),(uq J.f13),(uq J.f14),(uq J.f15),(uq J.f16),(uq J.f17),(uq J.f18),(uq J.f19),(ub J.f20),(uf hAs),(uq J.nA),(fun _=>B4),J.bel,(uf hAp)⟩⟩
     ·skip
      have hAp:L 21=false:=(hcl 21 20 (by kernel_rfl) (hcl 20 19 (by kernel_rfl) (hcl 19 6 (by kernel_rfl) (hcl 6 5 (by kernel_rfl) (hcl 5 4 (by kernel_rfl) hLi)))))
      have hAs:L 22=false:=(hcl 22 21 (by kernel_rfl) (hcl 21 20 (by kernel_rfl) (hcl 20 19 (by kernel_rfl) (hcl 19 6 (by kernel_rfl) (hcl 6 5 (by kernel_rfl) (hcl 5 4 (by kernel_rfl) hLi))))))
      have B4:=J.b4 hAp
      go_simp
      exact hK _ _ ⟨_,_,_,_,_,_,_,_,_,_,_,_,_,_,_,_,_,_,_,_,_,_,_,rfl,⟨(uq J.f0),(uq J.f1),(uq J.f2),(uq J.f3),(fun _=>rfl),(uq J.f5),(uq J.f6),(uq J.f7),(uq J.f8),(uq J.f9),(uq J.f10),(uq J.f11),(uq J.f12),(uq J.f13),(uq J.f14),(uq J.f15),(uq J.f16),(uq J.f17),(uq J.f18),(uq J.f19),(ub J.f20),(uf hAs),(uq J.nA),(fun _=>B4),J.bel,(uf hAp)⟩⟩
     ·skip
      have hAp:L 21=false:=(hcl 21 20 (by kernel_rfl) (hcl 20 19 (by kernel_rfl) (hcl 19 6 (by kernel_rfl) (hcl 6 5 (by kernel_rfl) hLi))))
      have hAs:L 22=false:=(hcl 22 21 (by kernel_rfl) (hcl 21 20 (by kernel_rfl) (hcl 20 19 (by kernel_rfl) (hcl 19 6 (by kernel_rfl) (hcl 6 5 (by kernel_rfl) hLi)))))
      have B4:=J.b4 hAp
      obtain ⟨q0,q1,q2,q3,q4⟩:=fiveO ((B4.block _ hlc).trans HC4.out)
      have hl:=Nat.lt_of_lt_of_le hlc B4.size
      obtain rfl:=J.f4 (haft ⟨4,.data⟩ (by simp) rfl)
      go_simp
      exact hK _ _ ⟨_,_,_,_,_,_,_,_,_,_,_,_,_,_,_,_,_,_,_,_,_,_,_,rfl,⟨(uq J.f0),(uq J.f1),(uq J.f2),(uq J.f3),(uq J.f4),(fun _=>rfl),(uq J.f6),(uq J.f7),(uq J.f8),(uq J.f9),(uq J.f10),(uq J.f11),(uq J.f12),(uq J.f13),(uq J.f14),(uq J.f15),(uq J.f16),(uq J.f17),(uq J.f18),(uq J.f19),(ub J.f20),(uf hAs),(uq J.nA),(fun _=>B4),J.bel,(uf hAp)⟩⟩
     ·skip
      have hAp:L 21=false:=(hcl 21 20 (by kernel_rfl) (hcl 20 19 (by kernel_rfl) (hcl 19 6 (by kernel_rfl) hLi)))
      have hAs:L 22=false:=(hcl 22 21 (by kernel_rfl) (hcl 21 20 (by kernel_rfl) (hcl 20 19 (by kernel_rfl) (hcl 19 6 (by kernel_rfl) hLi))))
      have B4:=J.b4 hAp
      obtain rfl:=J.f1 (haft ⟨1,.data⟩ (by simp) rfl)
      obtain rfl:=J.f3 (haft ⟨3,.data⟩ (by simp) rfl)
      obtain rfl:=J.f5 (haft ⟨5,.data⟩ (by simp) rfl)
      go_simp
      go_wp2_with (go_at_call 15;refine (KX.out W B4).mono ?_;rintro e WN ⟨rfl,hE⟩;have hb:Below W.heap.size W WN:=(hE ▸ Below.refl _ _);clear hE)
      exact ⟨_,_,_,_,_,_,_,_,_,_,_,_,_,_,_,_,_,_,_,_,_,_,_,rfl,⟨(uq J.f0),(uq J.f1),(uq J.f2),(uq J.f3),(uq J.f4),(uq J.f5),(fun _=>rfl),(uq J.f7),(uq J.f8),(uq J.f9),(uq J.f10),(uq J.f11),(uq J.f12),(uq J.f13),(uq J.f14),(uq J.f15),(uq J.f16),(uq J.f17),(uq J.f18),(uq J.f19),(fun h=>by rw [upd_ne rfl,(hcl 20 19 (by kernel_rfl) (hcl 19 6 (by kernel_rfl) hLi))] at h;cases h),(uf hAs),(uq J.nA),(fun _=>k_trans B4 hb),k_trans J.bel hb,(uf hAp)⟩⟩
     ·skip
      have hAp:L 21=false:=(hcl 21 20 (by kernel_rfl) (hcl 20 19 (by kernel_rfl) (hcl 19 10 (by kernel_rfl) (hcl 10 7 (by kernel_rfl) hLi))))
      have hAs:L 22=false:=(hcl 22 21 (by kernel_rfl) (hcl 21 20 (by kernel_rfl) (hcl 20 19 (by kernel_rfl) (hcl 19 10 (by kernel_rfl) (hcl 10 7 (by kernel_rfl) hLi)))))
      have B4:=J.b4 hAp
      go_simp
      exact hK _ _ ⟨_,_,_,_,_,_,_,_,_,_,_,_,_,_,_,_,_,_,_,_,_,_,_,rfl,⟨(uq J.f0),(uq J.f1),(uq J.f2),(uq J.f3),(uq J.f4),(uq J.f5),(uq J.f6),(fun _=>rfl),(uq J.f8),(uq J.f9),(uq J.f10),(uq J.f11),(uq J.f12),(uq J.f13),(uq J.f14),(uq J.f15),(uq J.f16),(uq J.f17),(uq J.f18),(uq J.f19),(ub J.f20),(uf hAs),(uq J.nA),(fun _=>B4),J.bel,(uf hAp)⟩⟩
     ·skip
      have hAp:L 21=false:=(hcl 21 20 (by kernel_rfl) (hcl 20 19 (by kernel_rfl) (hcl 19 10 (by kernel_rfl) (hcl 10 9 (by kernel_rfl) (hcl 9 8 (by kernel_rfl) hLi)))))
      have hAs:L 22=false:=(hcl 22 21 (by kernel_rfl) (hcl 21 20 (by kernel_rfl) (hcl 20 19 (by kernel_rfl) (hcl 19 10 (by kernel_rfl) (hcl 10 9 (by kernel_rfl) (hcl 9 8 (by kernel_rfl) hLi))))))
      have B4:=J.b4 hAp
      go_simp
      exact hK _ _ ⟨_,_,_,_,_,_,_,_,_,_,_,_,_,_,_,_,_,_,_,_,_,_,_,rfl,⟨(uq J.f0),(uq J.f1),(uq J.f2),(uq J.f3),(uq J.f4),(uq J.f5),(uq J.f6),(uq J.f7),(fun _=>rfl),(uq J.f9),(uq J.f10),(uq J.f11),(uq J.f12),(uq J.f13),(uq J.f14),(uq J.f15),(uq J.f16),(uq J.f17),(uq J.f18),(uq J.f19),(ub J.f20),(uf hAs),(uq J.nA),(fun _=>B4),J.bel,(uf hAp)⟩⟩
     ·skip
      have hAp:L 21=false:=(hcl 21 20 (by kernel_rfl) (hcl 20 19 (by kernel_rfl) (hcl 19 10 (by kernel_rfl) (hcl 10 9 (by kernel_rfl) hLi))))
      have hAs:L 22=false:=(hcl 22 21 (by kernel_rfl) (hcl 21 20 (by kernel_rfl) (hcl 20 19 (by kernel_rfl) (hcl 19 10 (by kernel_rfl) (hcl 10 9 (by kernel_rfl) hLi)))))
      have B4:=J.b4 hAp
      obtain ⟨q0,q1,q2,q3,q4⟩:=fiveO ((B4.block _ hlc).trans HC4.out)
      have hl:=Nat.lt_of_lt_of_le hlc B4.size
      obtain rfl:=J.f8 (haft ⟨8,.data⟩ (by simp) rfl)
      go_simp
      exact hK _ _ ⟨_,_,_,_,_,_,_,_,_,_,_,_,_,_,_,_,_,_,_,_,_,_,_,rfl,⟨(uq J.f0),(uq J.f1),(uq J.f2),(uq J.f3),(uq J.f4),(uq J.f5),(uq J.f6),(uq J.f7),(uq J.f8),(fun _=>rfl),(uq J.f10),(uq J.f11),(uq J.f12),(uq J.f13),(uq J.f14),(uq J.f15),(uq J.f16),(uq J.f17),(uq J.f18),(uq J.f19),(ub J.f20),(uf hAs),(uq J.nA),(fun _=>B4),J.bel,(uf hAp)⟩⟩
     ·skip
      have hAp:L 21=false:=(hcl 21 20 (by kernel_rfl) (hcl 20 19 (by kernel_rfl) (hcl 19 10 (by kernel_rfl) hLi)))
      have hAs:L 22=false:=(hcl 22 21 (by kernel_rfl) (hcl 21 20 (by kernel_rfl) (hcl 20 19 (by kernel_rfl) (hcl 19 10 (by kernel_rfl) hLi))))
      have B4:=J.b4 hAp
      obtain rfl:=J.f7 (haft ⟨7,.data⟩ (by simp) rfl)
      obtain rfl:=J.f9 (haft ⟨9,.data⟩ (by simp) rfl)
      go_simp
      go_wp2_with (go_at_call 16;refine (KY.out W B4).mono ?_;rintro e WN ⟨rfl,hE⟩;have hb:Below W.heap.size W WN:=(hE ▸ Below.refl _ _);clear hE)
      exact ⟨_,_,_,_,_,_,_,_,_,_,_,_,_,_,_,_,_,_,_,_,_,_,_,rfl,⟨(uq J.f0),(uq J.f1),(uq J.f2),(uq J.f3),(uq J.f4),(uq J.f5),(uq J.f6),(uq J.f7),(uq J.f8),(uq J.f9),(fun _=>rfl),(uq J.f11),(uq J.f12),(uq J.f13),(uq J.f14),(uq J.f15),(uq J.f16),(uq J.f17),(uq J.f18),(uq J.f19),(fun h=>by rw [upd_ne rfl,(hcl 20 19 (by kernel_rfl) (hcl 19 10 (by kernel_rfl) hLi))] at h;cases h),(uf hAs),(uq J.nA),(fun _=>k_trans B4 hb),k_trans J.bel hb,(uf hAp)⟩⟩
     ·skip
      have hAp:L 21=false:=(hcl 21 20 (by kernel_rfl) (hcl 20 19 (by kernel_rfl) (hcl 19 15 (by kernel_rfl) (hcl 15 11 (by kernel_rfl) hLi))))
      have hAs:L 22=false:=(hcl 22 21 (by kernel_rfl) (hcl 21 20 (by kernel_rfl) (hcl 20 19 (by kernel_rfl) (hcl 19 15 (by kernel_rfl) (hcl 15 11 (by kernel_rfl) hLi)))))
      have B4:=J.b4 hAp
      go_simp
      exact hK _ _ ⟨_,_,_,_,_,_,_,_,_,_,_,_,_,_,_,_,_,_,_,_,_,_,_,rfl,⟨(uq J.f0),(uq J.f1),(uq J.f2),(uq J.f3),(uq J.f4),(uq J.f5),(uq J.f6),(uq J.f7),(uq J.f8),(uq J.f9),(uq J.f10),(fun _=>rfl),(uq J.f12),(uq J.f13),(uq J.f14),(uq J.f15),(uq J.f16),(uq J.f17),(uq J.f18),(uq J.f19),(ub J.f20),(uf hAs),(uq J.nA),(fun _=>B4),J.bel,(uf hAp)⟩⟩
     ·skip
      have hAp:L 21=false:=(hcl 21 20 (by kernel_rfl) (hcl 20 19 (by kernel_rfl) (hcl 19 15 (by kernel_rfl) (hcl 15 13 (by kernel_rfl) (hcl 13 12 (by kernel_rfl) hLi)))))
      have hAs:L 22=false:=(hcl 22 21 (by kernel_rfl) (hcl 21 20 (by kernel_rfl) (hcl 20 19 (by kernel_rfl) (hcl 19 15 (by kernel_rfl) (hcl 15 13 (by kernel_rfl) (hcl 13 12 (by kernel_rfl) hLi))))))
      have B4:=J.b4 hAp
      go_simp
      exact hK _ _ ⟨_,_,_,_,_,_,_,_,_,_,_,_,_,_,_,_,_,_,_,_,_,_,_,rfl,⟨(uq J.f0),(uq J.f1),(uq J.f2),(uq J.f3),(uq J.f4),(uq J.f5),(uq J.f6),(uq J.f7),(uq J.f8),(uq J.f9),(uq J.f10),(uq J.f11),(fun _=>rfl),(uq J.f13),(uq J.f14),(uq J.f15),(uq J.f16),(uq J.f17),(uq J.f18),(uq J.f19),(ub J.f20),(uf hAs),(uq J.nA),(fun _=>B4),J.bel,(uf hAp)⟩⟩
     ·skip
      have hAp:L 21=false:=(hcl 21 20 (by kernel_rfl) (hcl 20 19 (by kernel_rfl) (hcl 19 15 (by kernel_rfl) (hcl 15 13 (by kernel_rfl) hLi))))
      have hAs:L 22=false:=(hcl 22 21 (by kernel_rfl) (hcl 21 20 (by kernel_rfl) (hcl 20 19 (by kernel_rfl) (hcl 19 15 (by kernel_rfl) (hcl 15 13 (by kernel_rfl) hLi)))))
      have B4:=J.b4 hAp
      obtain ⟨q0,q1,q2,q3,q4⟩:=fiveO ((B4.block _ hlt0).trans HX.out)
      have hl:=Nat.lt_of_lt_of_le hlt0 B4.size
      obtain rfl:=J.f12 (haft ⟨12,.data⟩ (by simp) rfl)
      go_simp
      exact hK _ _ ⟨_,_,_,_,_,_,_,_,_,_,_,_,_,_,_,_,_,_,_,_,_,_,_,rfl,⟨(uq J.f0),(uq J.f1),(uq J.f2),(uq J.f3),(uq J.f4),(uq J.f5),(uq J.f6),(uq J.f7),(uq J.f8),(uq J.f9),(uq J.f10),(uq J.f11),(uq J.f12),(fun _=>rfl),(uq J.f14),(uq J.f15),(uq J.f16),(uq J.f17),(uq J.f18),(uq J.f19),(ub J.f20),(uf hAs),(uq J.nA),(fun _=>B4),J.bel,(uf hAp)⟩⟩
     ·skip
      have hAp:L 21=false:=(hcl 21 20 (by kernel_rfl) (hcl 20 19 (by kernel_rfl) (hcl 19 15 (by kernel_rfl) (hcl 15 14 (by kernel_rfl) hLi))))
      have hAs:L 22=false:=(hcl 22 21 (by kernel_rfl) (hcl 21 20 (by kernel_rfl) (hcl 20 19 (by kernel_rfl) (hcl 19 15 (by kernel_rfl) (hcl 15 14 (by kernel_rfl) hLi)))))
      have B4:=J.b4 hAp
      obtain ⟨q0,q1,q2,q3,q4⟩:=fiveO ((B4.block _ hlc).trans HC4.out)
      have hl:=Nat.lt_of_lt_of_le hlc B4.size
      go_simp
      exact hK _ _ ⟨_,_,_,_,_,_,_,_,_,_,_,_,_,_,_,_,_,_,_,_,_,_,_,rfl,⟨(uq J.f0),(uq J.f1),(uq J.f2),(uq J.f3),(uq J.f4),(uq J.f5),(uq J.f6),(uq J.f7),(uq J.f8),(uq J.f9),(uq J.f10),(uq J.f11),(uq J.f12),(uq J.f13),(fun _=>rfl),(uq J.f15),(uq J.f16),(uq J.f17),(uq J.f18),(uq J.f19),(ub J.f20),(uf hAs),(uq J.nA),(fun _=>B4),J.bel,(uf hAp)⟩⟩
     ·skip
      have hAp:L 21=false:=(hcl 21 20 (by kernel_rfl) (hcl 20 19 (by kernel_rfl) (hcl 19 15 (by kernel_rfl) hLi)))
      have hAs:L 22=false:=(hcl 22 21 (by kernel_rfl) (hcl 21 20 (by kernel_rfl) (hcl 20 19 (by kernel_rfl) (hcl 19 15 (by kernel_rfl) hLi))))
      have B4:=J.b4 hAp
      obtain rfl:=J.f11 (haft ⟨11,.data⟩ (by simp) rfl)
      obtain rfl:=J.f13 (haft ⟨13,.data⟩ (by simp) rfl)
      obtain rfl:=J.f14 (haft ⟨14,.data⟩ (by simp) rfl)
      go_simp
      go_wp2_with (go_at_call 66;refine (KW.out W B4).mono ?_;rintro e WN ⟨rfl,hb⟩)
      exact ⟨_,_,_,_,_,_,_,_,_,_,_,_,_,_,_,_,_,_,_,_,_,_,_,rfl,⟨(uq J.f0),(uq J.f1),(uq J.f2),(uq J.f3),(uq J.f4),(uq J.f5),(uq J.f6),(uq J.f7),(uq J.f8),(uq J.f9),(uq J.f10),(uq J.f11),(uq J.f12),(uq J.f13),(uq J.f14),(fun _=>rfl),(uq J.f16),(uq J.f17),(uq J.f18),(uq J.f19),(fun h=>by rw [upd_ne rfl,(hcl 20 19 (by kernel_rfl) (hcl 19 15 (by kernel_rfl) hLi))] at h;cases h),(uf hAs),(uq J.nA),(fun _=>k_trans B4 hb),k_trans J.bel hb,(uf hAp)⟩⟩
     ·skip
      have hAp:L 21=false:=(hcl 21 20 (by kernel_rfl) (hcl 20 19 (by kernel_rfl) (hcl 19 18 (by kernel_rfl) (hcl 18 16 (by kernel_rfl) hLi))))
      have hAs:L 22=false:=(hcl 22 21 (by kernel_rfl) (hcl 21 20 (by kernel_rfl) (hcl 20 19 (by kernel_rfl) (hcl 19 18 (by kernel_rfl) (hcl 18 16 (by kernel_rfl) hLi)))))
      have B4:=J.b4 hAp
      go_simp
      exact hK _ _ ⟨_,_,_,_,_,_,_,_,_,_,_,_,_,_,_,_,_,_,_,_,_,_,_,rfl,⟨(uq J.f0),(uq J.f1),(uq J.f2),(uq J.f3),(uq J.f4),(uq J.f5),(uq J.f6),(uq J.f7),(uq J.f8),(uq J.f9),(uq J.f10),(uq J.f11),(uq J.f12),(uq J.f13),(uq J.f14),(uq J.f15),(fun _=>rfl),(uq J.f17),(uq J.f18),(uq J.f19),(ub J.f20),(uf hAs),(uq J.nA),(fun _=>B4),J.bel,(uf hAp)⟩⟩
     ·skip
      have hAp:L 21=false:=(hcl 21 20 (by kernel_rfl) (hcl 20 19 (by kernel_rfl) (hcl 19 18 (by kernel_rfl) (hcl 18 17 (by kernel_rfl) hLi))))
      have hAs:L 22=false:=(hcl 22 21 (by kernel_rfl) (hcl 21 20 (by kernel_rfl) (hcl 20 19 (by kernel_rfl) (hcl 19 18 (by kernel_rfl) (hcl 18 17 (by kernel_rfl) hLi)))))
      have B4:=J.b4 hAp
      obtain ⟨q0,q1,q2,q3,q4⟩:=fiveO ((B4.block _ hlc).trans HC4.out)
      have hl:=Nat.lt_of_lt_of_le hlc B4.size
      go_simp
      exact hK _ _ ⟨_,_,_,_,_,_,_,_,_,_,_,_,_,_,_,_,_,_,_,_,_,_,_,rfl,⟨(uq J.f0),(uq J.f1),(uq J.f2),(uq J.f3),(uq J.f4),(uq J.f5),(uq J.f6),(uq J.f7),(uq J.f8),(uq J.f9),(uq J.f10),(uq J.f11),(uq J.f12),(uq J.f13),(uq J.f14),(uq J.f15),(uq J.f16),(fun _=>rfl),(uq J.f18),(uq J.f19),(ub J.f20),(uf hAs),(uq J.nA),(fun _=>B4),J.bel,(uf hAp)⟩⟩
     ·skip
      have hAp:L 21=false:=(hcl 21 20 (by kernel_rfl) (hcl 20 19 (by kernel_rfl) (hcl 19 18 (by kernel_rfl) hLi)))
      have hAs:L 22=false:=(hcl 22 21 (by kernel_rfl) (hcl 21 20 (by kernel_rfl) (hcl 20 19 (by kernel_rfl) (hcl 19 18 (by kernel_rfl) hLi))))
      have B4:=J.b4 hAp
      obtain rfl:=J.f16 (haft ⟨16,.data⟩ (by simp) rfl)
      obtain rfl:=J.f17 (haft ⟨17,.data⟩ (by simp) rfl)
      go_simp
      go_wp2_with (go_at_call 50;refine (KH.out W B4).mono ?_;rintro e WN ⟨rfl,hb⟩)
      exact ⟨_,_,_,_,_,_,_,_,_,_,_,_,_,_,_,_,_,_,_,_,_,_,_,rfl,⟨(uq J.f0),(uq J.f1),(uq J.f2),(uq J.f3),(uq J.f4),(uq J.f5),(uq J.f6),(uq J.f7),(uq J.f8),(uq J.f9),(uq J.f10),(uq J.f11),(uq J.f12),(uq J.f13),(uq J.f14),(uq J.f15),(uq J.f16),(uq J.f17),(fun _=>rfl),(uq J.f19),(fun h=>by rw [upd_ne rfl,(hcl 20 19 (by kernel_rfl) (hcl 19 18 (by kernel_rfl) hLi))] at h;cases h),(uf hAs),(uq J.nA),(fun _=>k_trans B4 hb),k_trans J.bel hb,(uf hAp)⟩⟩
     ·skip
      have hAp:L 21=false:=(hcl 21 20 (by kernel_rfl) (hcl 20 19 (by kernel_rfl) hLi))
      have hAs:L 22=false:=(hcl 22 21 (by kernel_rfl) (hcl 21 20 (by kernel_rfl) (hcl 20 19 (by kernel_rfl) hLi)))
      have B4:=J.b4 hAp
      obtain rfl:=J.f6 (haft ⟨6,.data⟩ (by simp) rfl)
      obtain rfl:=J.f10 (haft ⟨10,.data⟩ (by simp) rfl)
      obtain rfl:=J.f15 (haft ⟨15,.data⟩ (by simp) rfl)
      obtain rfl:=J.f18 (haft ⟨18,.data⟩ (by simp) rfl)
      go_simp
      exact hK _ _ ⟨_,_,_,_,_,_,_,_,_,_,_,_,_,_,_,_,_,_,_,_,_,_,_,rfl,⟨(uq J.f0),(uq J.f1),(uq J.f2),(uq J.f3),(uq J.f4),(uq J.f5),(uq J.f6),(uq J.f7),(uq J.f8),(uq J.f9),(uq J.f10),(uq J.f11),(uq J.f12),(uq J.f13),(uq J.f14),(uq J.f15),(uq J.f16),(uq J.f17),(uq J.f18),(fun _=>rfl),(ub J.f20),(uf hAs),(uq J.nA),(fun _=>B4),J.bel,(uf hAp)⟩⟩
     ·skip
      have hAp:L 21=false:=(hcl 21 20 (by kernel_rfl) hLi)
      have hAs:L 22=false:=(hcl 22 21 (by kernel_rfl) (hcl 21 20 (by kernel_rfl) hLi))
      have B4:=J.b4 hAp
      obtain rfl:=J.f19 (haft ⟨19,.data⟩ (by simp) rfl)
      go_simp
      exact hK _ _ ⟨_,_,_,_,_,_,_,_,_,_,_,_,_,_,_,_,_,_,_,_,_,_,_,rfl,⟨(uq J.f0),(uq J.f1),(uq J.f2),(uq J.f3),(uq J.f4),(uq J.f5),(uq J.f6),(uq J.f7),(uq J.f8),(uq J.f9),(uq J.f10),(uq J.f11),(uq J.f12),(uq J.f13),(uq J.f14),(uq J.f15),(uq J.f16),(uq J.f17),(uq J.f18),(uq J.f19),(fun _=>⟨_,rfl,fun _=>⟨by simp,by simp,by simp,by simp⟩⟩),(uf hAs),(uq J.nA),(fun _=>k_alloc B4 _),k_alloc J.bel _,(uf hAp)⟩⟩
     ·skip
      have hAp:L 21=false:=hLi
      have hAs:L 22=false:=(hcl 22 21 (by kernel_rfl) hLi)
      have B4:=J.b4 hAp
      obtain rfl:=J.f0 (haft ⟨0,.data⟩ (by simp) rfl)
      obtain ⟨g,rfl,hg⟩:=J.f20 (haft ⟨20,.data⟩ (by simp) rfl)
      have hO4:=ownsRow_keptS HO.out B4
      obtain ⟨g0,g1,g2,g3⟩:=hg hAp
      rw [if_pos (by rfl)]
      refine wp_append_own _ (.tmp 28) (.tmp 48) 48 rfl W1.heap.size 92 i0 (.agg #[.int .i64 0,.int .i64 0,.int .i64 0,.int .i64 0]) 4 32 Tryz.underlying48 hi0 hz0 hz1 hz2 rfl (by decide) _ _ _ rfl hO4 ⟨g,0,none⟩ 1 1 [.int .i64 q.x,.int .i64 q.y,.int .i64 q.w,.int .i64 q.h] rfl rfl ?c1 ?c2 ?c3 ?c4 ?c5 ?_
      case c1 =>
       intro i u hi
       match i,hi with
       | 0,hi=>simp at hi;subst hi;simpa [Addr.add] using g0
       | 1,hi=>simp at hi;subst hi;simpa [Addr.add] using g1
       | 2,hi=>simp at hi;subst hi;simpa [Addr.add] using g2
       | 3,hi=>simp at hi;subst hi;simpa [Addr.add] using g3
      case c2=>intro u hu;simp at hu;rcases hu with rfl | rfl | rfl | rfl <;> rfl
      case c3=>unfold maxLen;omega
      case c4=>omega
      case c5=>exact J.bel.size
      intro v' w5 hown' hgrow' _
      have hB5:Below W1.heap.size W1 w5:=J.bel.grown hgrow' J.bel.size (fun q hq=>(hO4.lt q hq).1)
      have hO5:=own_next hown'
      exact hK _ _ ⟨_,_,_,_,_,_,_,_,_,_,_,_,_,_,_,_,_,_,_,_,_,_,_,rfl,⟨(uq J.f0),(uq J.f1),(uq J.f2),(uq J.f3),(uq J.f4),(uq J.f5),(uq J.f6),(uq J.f7),(uq J.f8),(uq J.f9),(uq J.f10),(uq J.f11),(uq J.f12),(uq J.f13),(uq J.f14),(uq J.f15),(uq J.f16),(uq J.f17),(uq J.f18),(uq J.f19),(fun _=>⟨g,rfl,fun h2=>by rw [upd_self] at h2;cases h2⟩),(uf hAs),(uq J.nA),(fun h=>by rw [upd_self] at h;cases h),hB5,(fun _=>hO5)⟩⟩
     ·skip
      go_simp
      exact hK _ _ ⟨_,_,_,_,_,_,_,_,_,_,_,_,_,_,_,_,_,_,_,_,_,_,_,rfl,⟨(uq J.f0),(uq J.f1),(uq J.f2),(uq J.f3),(uq J.f4),(uq J.f5),(uq J.f6),(uq J.f7),(uq J.f8),(uq J.f9),(uq J.f10),(uq J.f11),(uq J.f12),(uq J.f13),(uq J.f14),(uq J.f15),(uq J.f16),(uq J.f17),(uq J.f18),(uq J.f19),(ub J.f20),(fun _=>rfl),(fun h=>by rw [upd_self] at h;cases h),(uq J.b4),J.bel,(uq J.ownA)⟩⟩
  case hs =>
   intro L act W i o hJ hcl ho hLi haft K hK
   obtain ⟨v14,v15,v16,v17,v18,v19,v5,v6,ha,J⟩:=hJ
   subst ha
   have hi':i < 8:=by
    have:=(bL ho)
    simpa using this
   rcases (by omega:i=0∨i=1∨i=2∨i=3∨i=4∨i=5∨i=6∨i=7) with rfl | rfl | rfl | rfl | rfl | rfl | rfl | rfl
   all_goals
    simp only [List.getElem?_toArray,List.getElem?_cons_zero,List.getElem?_cons_succ,Option.some.injEq] at ho
    subst ho
    clear hi'
   ·skip
    obtain ⟨q0,q1,q2,q3,q4⟩:=fiveO ((J.b.block _ hl0).trans HX.out)
    have hl:=Nat.lt_of_lt_of_le hl0 J.b.size
    go_simp
    exact hK _ _ ⟨_,_,_,_,_,_,_,_,rfl,⟨(fun _=>rfl),(uq J.f1),(uq J.f2),(uq J.f3),(uq J.f4),(uq J.f5),(uq J.f6),(uq J.f7),J.b⟩⟩
   ·skip
    go_simp
    exact hK _ _ ⟨_,_,_,_,_,_,_,_,rfl,⟨(uq J.f0),(fun _=>rfl),(uq J.f2),(uq J.f3),(uq J.f4),(uq J.f5),(uq J.f6),(uq J.f7),J.b⟩⟩
   ·skip
    obtain rfl:=J.f0 (haft ⟨0,.data⟩ (by simp) rfl)
    obtain rfl:=J.f1 (haft ⟨1,.data⟩ (by simp) rfl)
    go_simp
    go_wp2_with (go_at_call 10;refine (KC2.out W J.b).mono ?_;rintro e W2 ⟨v,rfl,hR,hb⟩;have hI:=hR.at;clear hR)
    exact ⟨_,_,_,_,_,_,_,_,rfl,⟨(uq J.f0),(uq J.f1),(fun _=>hI),(uq J.f3),(uq J.f4),(fun h=>(J.f5 (un h)).kept hb),(fun h=>(J.f6 (un h)).kept hb),(fun h=>(J.f7 (un h)).kept hb),k_trans J.b hb⟩⟩
   ·skip
    obtain ⟨q0,q1,q2,q3,q4⟩:=fiveO ((J.b.block _ hl0).trans HX.out)
    have hl:=Nat.lt_of_lt_of_le hl0 J.b.size
    go_simp
    exact hK _ _ ⟨_,_,_,_,_,_,_,_,rfl,⟨(uq J.f0),(uq J.f1),(uq J.f2),(fun _=>rfl),(uq J.f4),(uq J.f5),(uq J.f6),(uq J.f7),J.b⟩⟩
   ·skip
    go_simp
    exact hK _ _ ⟨_,_,_,_,_,_,_,_,rfl,⟨(uq J.f0),(uq J.f1),(uq J.f2),(uq J.f3),(fun _=>rfl),(uq J.f5),(uq J.f6),(uq J.f7),J.b⟩⟩
   ·skip
    obtain rfl:=J.f3 (haft ⟨3,.data⟩ (by simp) rfl)
    obtain rfl:=J.f4 (haft ⟨4,.data⟩ (by simp) rfl)
    go_simp
    go_wp2_with (go_at_call 11;refine (KR2.out W J.b).mono ?_;rintro e W2 ⟨v,rfl,hR,hb⟩;have hI:=hR.at;clear hR)
    exact ⟨_,_,_,_,_,_,_,_,rfl,⟨(uq J.f0),(uq J.f1),(fun h=>(J.f2 (un h)).kept hb),(uq J.f3),(uq J.f4),(fun _=>hI),(fun h=>(J.f6 (un h)).kept hb),(fun h=>(J.f7 (un h)).kept hb),k_trans J.b hb⟩⟩
   ·skip
    have hI2:=J.f2 (haft ⟨2,.data⟩ (by simp) rfl)
    go_simp
    exact hK _ _ ⟨_,_,_,_,_,_,_,_,rfl,⟨(uq J.f0),(uq J.f1),(uq J.f2),(uq J.f3),(uq J.f4),(uq J.f5),(fun _=>hI2),(uq J.f7),J.b⟩⟩
   ·skip
    have hI2:=J.f5 (haft ⟨5,.data⟩ (by simp) rfl)
    go_simp
    exact hK _ _ ⟨_,_,_,_,_,_,_,_,rfl,⟨(uq J.f0),(uq J.f1),(uq J.f2),(uq J.f3),(uq J.f4),(uq J.f5),(uq J.f6),(fun _=>hI2),J.b⟩⟩
theorem fourHi {w:World} {g:Nat} {x0 x1 x2 x3:Value} {t:TypeId} (h:w.heap[g]?=some (.cells #[x0,x1,x2,x3] t)):w.cell? ⟨g,0,none⟩=some x0∧w.cell? ⟨g,1,none⟩=some x1∧w.cell? ⟨g,2,none⟩=some x2∧w.cell? ⟨g,3,none⟩=some x3:=⟨cellB h,cellB h,cellB h,cellB h⟩
set_option maxRecDepth 100000 in
set_option maxHeartbeats 2000000 in
theorem implQryHit (ac ar:Option Addr) (cc cr:Nat) (t:T) (hD:Drawn t) (width x y:Int) (hx:I64 x) (hy:I64 y) (w:World) {z:Nat} (hc:ColsAt w z (.slice ac t.cols.length cc) t.cols) (hr:RowsAt w z (.slice ar t.rows.length cr) t.rows) :
  Calls Tryz.prog 14 #[.agg #[.slice ac t.cols.length cc,.int .i64 t.head,.int .i64 t.foot,.slice ar t.rows.length cr,.int .i64 t.gap],.int .i64 width,.int .i64 x,.int .i64 y] w fun e w'=>∃ r,e=.returned (.int .i64 r)∧HitAt (rectsT t width) x y r∧Below w.heap.size w w':=by
 have HK0:=Hd (k_alloc (Below.refl w.heap.size w) (.cells #[.slice ac t.cols.length cc,.int .i64 t.head,.int .i64 t.foot,.slice ar t.rows.length cr,.int .i64 t.gap] 26))
 have HX0:=Hd (newestB w (.cells #[.slice ac t.cols.length cc,.int .i64 t.head,.int .i64 t.foot,.slice ar t.rows.length cr,.int .i64 t.gap] 26))
 have HT0:Hid (TA w z ac ar cc cr t):=⟨hc,hr⟩
 have HQ:=Hd (fun W (h:TA W z ac ar cc cr t)=>implQryRects ac ar cc cr t hD width W h.1 h.2)
 have HI:=Hd (inF hD width).1
 generalize rectsT t width=QL at HQ HI ⊢
 clear hc hr
 go_enter Tryz.func14,Tryz.ntmps14
 go_upto_region 1 with fail
 generalize w.alloc (.cells #[.slice ac t.cols.length cc,.int .i64 t.head,.int .i64 t.foot,.slice ar t.rows.length cr,.int .i64 t.gap] 26)=W0 at HK0 HX0 ⊢
 obtain ⟨b0,b1,b2,b3,b4⟩:=(fiveZ HX0.out).1
 have KQ:=Hd (HQ.out _ (HT0.out.kept HK0.out))
 go_wp2_with fail
 refine KQ.out.mono ?_
 rintro e w1 ⟨v1,rfl,hR1,hb1⟩
 obtain ⟨a1,c1,rfl,hq1⟩:=At.form hR1
 have HJ:=Hd hR1
 have HK:=Hd (k_trans HK0.out hb1)
 unfold maxLen at hq1
 clear hR1 hb1 KQ HQ HK0 HX0 HT0 b0 b1 b2 b3 b4
 go_wp2_with fail
 go_loopw [15] (fun s W=>∃ k:Nat,s=.int .i64 k∧k≤QL.length∧Hid (∀ j,j < k→hasQ QL x y j=false)∧Hid (Below w1.heap.size w1 W)) (fun s _=>QL.length - (intOf s).toNat)
 case atStart=>exact ⟨0,rfl,Nat.zero_le _,fun j hj=>absurd hj (Nat.not_lt_zero _),Below.refl _ _⟩
 case round=>as_aux_lemma =>
  obtain ⟨k,rfl,hk,HN,HB⟩:=hrel
  by_cases hkl:k < QL.length
  case neg =>
   obtain rfl:k=QL.length:=by omega
   have hnot:¬ ((QL.length:Int) < (QL.length:Int)):=by omega
   have HB7:=Hd (HK.out.trans (HB.out.mono HK.out.size))
   go_wp2
   go_ret
   exact ⟨-1,rfl,.inr ⟨rfl,HN.out⟩,HB7.out⟩
  obtain ⟨bq,offq,capq,eq1,hq1,hq2,hbq,n0,n1,n2,n3⟩:=At.get (HJ.out.kept HB.out) hkl
  simp only [Value.slice.injEq,true_and] at eq1
  obtain ⟨rfl,rfl⟩:=eq1
  unfold maxLen at hq2
  obtain ⟨i1,i2,i3,i4⟩:=HI.out k hkl
  have HH:Hid (hasQ QL x y k=qinB (QL.getD k dQ).x (QL.getD k dQ).y (QL.getD k dQ).w (QL.getD k dQ).h x y):=rfl
  generalize QL.getD k dQ=qa at n0 n1 n2 n3 i1 i2 i3 i4 HH
  have KI:=Hd (fun W1=>implQryIn qa.x qa.y qa.w qa.h x y i1 i2 i3 i4 hx hy W1)
  generalize qinB qa.x qa.y qa.w qa.h x y=bb at KI HH
  have t1:(k:Int) < (QL.length:Int):=by omega
  go_upto_region 4 with fail
  have HC4:=newestB wr (.cells #[.int .i64 qa.x,.int .i64 qa.y,.int .i64 qa.w,.int .i64 qa.h] 92)
  have KA:=k_alloc (Below.refl wr.heap.size wr) (.cells #[.int .i64 qa.x,.int .i64 qa.y,.int .i64 qa.w,.int .i64 qa.h] 92)
  have HB4:=Hd (k_trans HB.out KA)
  clear KA n0 n1 n2 n3 hbq HB
  generalize wr.alloc (.cells #[.int .i64 qa.x,.int .i64 qa.y,.int .i64 qa.w,.int .i64 qa.h] 92)=W4 at HB4 HC4 ⊢
  generalize wr.heap.size=qb0 at HC4 ⊢
  obtain ⟨o0,o1,o2,o3⟩:=fourHi HC4
  clear HC4
  cases bb with
  | true =>
   go_wp2_with fail
   refine (KI.out _).mono ?_
   rintro e w13 ⟨rfl,hb13⟩
   have HB5:=Hd (HK.out.trans ((k_trans HB4.out hb13).mono HK.out.size))
   clear hb13 o0 o1 o2 o3
   go_wp2
   go_ret
   exact ⟨k,rfl,.inl ⟨k,hkl,rfl,HH.out,HN.out⟩,HB5.out⟩
  | false =>
   go_wp2_with fail
   refine (KI.out _).mono ?_
   rintro e w13 ⟨rfl,hb13⟩
   have HB5:=Hd (k_trans HB4.out hb13)
   clear hb13 o0 o1 o2 o3
   go_wp2
   go_roundw
   case rel=>exact ⟨k+1,by go_num,by omega,none_next HN.out HH.out,HB5⟩
   case measure=>simp [intOf];omega
end Go.Proofs.YtojogjlblgcioanGreat
