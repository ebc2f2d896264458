/-
  PROVED HERE: the program's HgtRows at a drawn table and any width: how high rows are, in memory of its own; nothing that was in memory is turned.
-/
import Derived.Test.YtojogjlblgcioanGreatC34
import Derived.Test.YtojogjlblgcioanGreatC39
import Derived.Test.YtojogjlblgcioanGreatC33
import Derived.Test.YtojogjlblgcioanGreatC31
import Derived.Test.YtojogjlblgcioanGreatC36
import Derived.Test.YtojogjlblgcioanGreatC26
import Derived.WalkMore
namespace Go.Proofs.YtojogjlblgcioanGreat
open Go.RowKit Go.BigFrame
def HrP (W5:World) (R:Nat) (L:List Int) (W:World):Prop:=Below W5.heap.size W5 W∧RowI W W5.heap.size (W5.heap.size+1) (.slice (some ⟨W5.heap.size,0,none⟩) R R) L∧W5.heap.size+1≤W.heap.size
theorem HrP.kept {W5 W W':World} {R:Nat} {L:List Int} (h:HrP W5 R L W) (hb:Below W.heap.size W W'):HrP W5 R L W' :=
 ⟨h.1.trans (hb.mono h.1.size),h.2.1.kept (fun j h0 _ _=>hb.block j h0),Nat.le_trans h.2.2 hb.size⟩
theorem HrP.set {W5 W W':World} {R:Nat} {L:List Int} (h:HrP W5 R L W) {r:Nat} (hr:r < L.length) (hb:Below W.heap.size W W') (y:Int):HrP W5 R (L.set r y) (W'.setCell ⟨W5.heap.size,r,none⟩ (.int .i64 y)) :=
 ⟨k_set (h.kept hb).1 (p:=⟨W5.heap.size,r,none⟩) (Nat.le_refl _) (.int .i64 y),(h.kept hb).2.1.set hr y,by rw [sizeSet];exact (h.kept hb).2.2⟩
set_option maxRecDepth 100000 in
set_option maxHeartbeats 4000000 in
theorem implHgtRows (ac ar:Option Addr) (cc cr:Nat) (t:T) (hD:Drawn t) (width:Int) (w:World) {z:Nat} (hc:ColsAt w z (.slice ac t.cols.length cc) t.cols) (hr:RowsAt w z (.slice ar t.rows.length cr) t.rows) :
  Calls Tryz.prog 11 #[.agg #[.slice ac t.cols.length cc,.int .i64 t.head,.int .i64 t.foot,.slice ar t.rows.length cr,.int .i64 t.gap],.int .i64 width] w fun e w'=>∃ v,e=.returned v∧RowI w' w.heap.size w'.heap.size v (rowsT t width)∧Below w.heap.size w w':=by
 have hmx:Tryz.prog.follows .mixedOrders=true:=by kernel_rfl
 have HK0:=Hd (k_alloc (Below.refl w.heap.size w) (.cells #[.slice ac t.cols.length cc,.int .i64 t.head,.int .i64 t.foot,.slice ar t.rows.length cr,.int .i64 t.gap] 26))
 have HX0:=Hd (newestB w (.cells #[.slice ac t.cols.length cc,.int .i64 t.head,.int .i64 t.foot,.slice ar t.rows.length cr,.int .i64 t.gap] 26))
 have HT0:Hid (TA w z ac ar cc cr t):=⟨hc,hr⟩
 have hs0:(w.alloc (.cells #[.slice ac t.cols.length cc,.int .i64 t.head,.int .i64 t.foot,.slice ar t.rows.length cr,.int .i64 t.gap] 26)).heap.size=w.heap.size+1:=by simp
 clear hc hr
 go_enter Tryz.func11,Tryz.ntmps11
 go_wp2_with fail
 go_step3
 generalize w.alloc (.cells #[.slice ac t.cols.length cc,.int .i64 t.head,.int .i64 t.foot,.slice ar t.rows.length cr,.int .i64 t.gap] 26)=W0 at HK0 HX0 hs0 ⊢
 obtain ⟨b0,b1,b2,b3,b4⟩:=fiveO HX0.out
 have KM:=Hd (implmayBeWide ac ar cc cr t width _ (HT0.out.kept HK0.out).1 (HT0.out.kept HK0.out).2)
 cases hmay:(tblB t && inB width 0 300) with
 | false =>
  have HW:Hid (rowsT t width=[]):=by rw [Hid,rowsT,if_neg (by rw [hmay];simp)]
  rw [hmay] at KM
  clear hmay
  go_wp2_with fail
  refine KM.out.mono ?_
  rintro e w2 ⟨rfl,hb2⟩
  have HK2:=Hd (k_trans HK0.out hb2)
  clear hb2 KM b0 b1 b2 b3 b4
  go_wp2
  try rw [Exit.noGoto_ret]
  go_ret
  exact ⟨_,rfl,by rw [HW.out];exact .inl ⟨rfl,rfl⟩,HK2.out⟩
 | true =>
  have HW:Hid (rowsT t width=rowsOfT t (widL t width)):=by rw [Hid,rowsT,if_pos hmay]
  rw [hmay] at KM
  have HLT:Hid (linesT t width=linesL t (widL t width) (gOf t).cells):=by rw [Hid,linesT,if_pos hmay]
  rw [Bool.and_eq_true] at hmay
  obtain ⟨htk,hin⟩:=hmay
  have h40:=gLen hD
  have hR8:=tRows hD htk
  have HGr:=Hd (gRows htk)
  have HGc:=Hd (gCell hD htk)
  have HGm:=Hd (gMono hD htk)
  have HGk:=Hd (gOf_gok hD)
  have HLl:=Hd (linesL_len t (widL t width) (gOf t).cells)
  have HLa:=Hd (lnAll t (widL t width) (gOf t).cells)
  have HRc:=Hd (rc_le t (widL t width) (gOf t).cells)
  have KC:=Hd (fun W (h:TA W z ac ar cc cr t)=>implHgtLines ac ar cc cr t hD width W h.1 h.2)
  have KG:=Hd (fun W (h:TA W z ac ar cc cr t)=>implGrdOf ac ar cc cr t hD W h.1 h.2)
  rw [HLT.out] at KC
  unfold rowsOfT at HW
  generalize linesL t (widL t width) (gOf t).cells=ls at KC HW HLl HLa HRc
  obtain ⟨R,hRe⟩:∃ R:Nat,t.rows.length=R:=⟨_,rfl⟩
  rw [hRe] at HGr HGc hR8 HW
  rw [HGr.out] at KG
  have hmk:=makeI R (by omega)
  clear hD htk hin HLT HGr hRe
  go_wp2_with fail
  refine KM.out.mono ?_
  rintro e w2 ⟨rfl,hb2⟩
  have HX2:=Hd ((hb2.block w.heap.size (by omega)).trans HX0.out)
  have HK2:=Hd (k_trans HK0.out hb2)
  have hz2':w.heap.size < w2.heap.size:=by have:=hb2.size;omega
  clear hb2 KM b0 b1 b2 b3 b4 HX0 HK0
  obtain ⟨b0,b1,b2,b3,b4⟩:=fiveO HX2.out
  go_wp2_with fail
  refine (KG.out _ (HT0.out.kept HK2.out)).mono ?_
  rintro e w3 ⟨vg,rfl,hO3,hb3⟩
  obtain ⟨ag,cg,rfl⟩:=own_slice hO3
  have HG3:=Hd (hO3.at HGk.out)
  have HX3:=Hd ((hb3.block w.heap.size hz2').trans HX2.out)
  have HK3:=Hd (k_trans HK2.out hb3)
  have hz3:w.heap.size < w3.heap.size:=by have:=hb3.size;omega
  clear hb3 hO3 b0 b1 b2 b3 b4 HX2 HK2 KG
  go_upto_region 4 with fail
  have HB4:=k_alloc (Below.refl w3.heap.size w3) (.cells #[.int .i64 (R:Int),.int .i64 (gOf t).cols,.slice ag (gOf t).cells.length cg] 34)
  have HG4:=Hd (HG3.out.kept HB4)
  have HX4:=Hd ((HB4.block w.heap.size hz3).trans HX3.out)
  have HK4:=Hd (k_trans HK3.out HB4)
  have HY4:=Hd (newestB w3 (.cells #[.int .i64 (R:Int),.int .i64 (gOf t).cols,.slice ag (gOf t).cells.length cg] 34))
  have hz4:w3.heap.size < (w3.alloc (.cells #[.int .i64 (R:Int),.int .i64 (gOf t).cols,.slice ag (gOf t).cells.length cg] 34)).heap.size:=by simp
  clear HB4 HG3 HX3 HK3
  generalize w3.alloc (.cells #[.int .i64 (R:Int),.int .i64 (gOf t).cols,.slice ag (gOf t).cells.length cg] 34)=W4 at HG4 HX4 HK4 HY4 hz4 ⊢
  generalize w3.heap.size=gb at HY4 hz3 hz4 ⊢
  obtain ⟨b0,b1,b2,b3,b4⟩:=fiveO HX4.out
  go_wp2_with fail
  refine (KC.out _ (HT0.out.kept HK4.out)).mono ?_
  rintro e W5 ⟨v5,rfl,hL5,hb5⟩
  obtain ⟨al,cl,rfl,_⟩:=At.form hL5
  rw [HLl.out] at hL5 ⊢
  have HL5:=Hd hL5
  have HG5:=Hd (HG4.out.kept hb5)
  have HK5:=Hd (k_trans HK4.out hb5)
  have HY5:=Hd ((hb5.block gb hz4).trans HY4.out)
  have hz5:gb < W5.heap.size:=by have:=hb5.size;omega
  clear hb5 hL5 b0 b1 b2 b3 b4 HX4 HK4 HG4 HY4 KC HT0 hz2'
  have y0:W5.cell? ⟨gb,0,none⟩=some (.int .i64 (R:Int)):=cellB HY5.out
  have HH:Hid (HrP W5 R (rowsL (rcs (gOf t).cells ls) 0 ++ zeroL (R - 0)) (W5.alloc (.cells (newI R) 3))):=⟨k_alloc (Below.refl _ _) _,row_new W5 R (by omega),by simp⟩
  have HRl:=Hd (rcs_len HLl.out)
  have HRg:=Hd (fun k (hk:k < (gOf t).cells.length)=>rcs_get HLl.out hk)
  have HRp:Hid (∀ j,j < (gOf t).cells.length→∀ c,(rcs (gOf t).cells ls)[j]?=some c→c.1=((gOf t).cells.getD j dG).row.toNat∧c.2.1=((gOf t).cells.getD j dG).rows.toNat):=fun j hj c hc=>by
   rw [rcs_get HLl.out hj] at hc
   obtain rfl:=Option.some.inj hc
   exact ⟨rfl,rfl⟩
  generalize hcs:rcs (gOf t).cells ls=cs at HRl HRg HRp HRc HW HH
  clear hcs
  go_wp2_with fail
  go_step3
  go_wp2_with fail
  go_loopw [25] (fun s W=>∃ r:Nat,s=.int .i64 r∧r≤R∧Hid (HrP W5 R (rowsL cs r ++ zeroL (R - r)) W)) (fun s _=>R - (intOf s).toNat)
  case atStart=>exact ⟨0,rfl,Nat.zero_le _,HH⟩
  case round =>
   clear HH y0 hmk
   obtain ⟨r,rfl,hr,HH⟩:=hrel
   by_cases hlt:r < R
   case neg =>
    obtain rfl:r=R:=by omega
    have HF:=HH
    rw [Nat.sub_self,show zeroL 0=[] from rfl,List.append_nil] at HF
    have HK:=Hd (HK5.out.trans (HF.out.1.mono (by omega)))
    go_wp2
    rw [Exit.noGoto_ret]
    go_ret
    exact ⟨_,rfl,by rw [HW.out];exact HF.out.2.1.base (by omega) HF.out.2.2,HK.out⟩
   rw [hsL_none cs hlt] at HH
   have Y:=Hd ((HH.out.1.block gb hz5).trans HY5.out)
   have q2:wr.cell? ⟨gb,2,none⟩=some (.slice ag (gOf t).cells.length cg):=cellB Y.out
   go_wp2_with fail
   go_loopw [31] (fun s W=>∃ k:Nat,s=.int .i64 k∧k≤(gOf t).cells.length∧Hid (HrP W5 R (hsL cs R r k) W)) (fun s _=>(gOf t).cells.length - (intOf s).toNat)
   case atStart=>exact ⟨0,rfl,Nat.zero_le _,HH⟩
   case round=>as_aux_lemma =>
    clear HH q2 Y
    obtain ⟨k,rfl,hk,HH⟩:=hrel
    by_cases hkl:k < (gOf t).cells.length
    case neg =>
     obtain rfl:k=(gOf t).cells.length:=by omega
     rw [← HRl.out,hsL_all] at HH
     go_wp2
     go_roundw
     case rel=>exact ⟨r+1,by go_num,by omega,HH⟩
     case measure=>simp [intOf];omega
    obtain ⟨b,off,cap',e',hc1,hc2,hbl,hx,hxo⟩:=At.get (HG5.out.kept HH.out.1) hkl
    simp only [Value.slice.injEq,true_and] at e'
    obtain ⟨rfl,rfl⟩:=e'
    unfold maxLen at hc2
    obtain ⟨a,m,e1,e2,h1,h2⟩:=HGc.out k hkl
    have HCv:Hid (cs[k]?=some (a,m,((ls.getD k []).length:Int))):=by rw [Hid,HRg.out k hkl,rcOf,e1,e2,Int.toNat_natCast,Int.toNat_natCast]
    have HLt:Hid (r < a→hsL cs R r k=rowsL cs (r+1) ++ zeroL (R - (r+1))):=fun hra=>by
     rw [← hsL_all]
     refine hs_late (fun j hkj hj c hc=>?_)
     rw [HRl.out] at hj
     obtain ⟨c1,c2⟩:=HRp.out j hj c hc
     obtain ⟨aj,mj,f1,f2,f3,f4⟩:=HGc.out j hj
     have hmj:=HGm.out k j hkj hj
     rw [c1,c2]
     omega
    obtain ⟨x0,x1,x2,x3,x4⟩:=hx
    rw [e1] at x0
    rw [e2] at x2
    have HXe:Hid (((gOf t).cells.getD k dG).row=a∧((gOf t).cells.getD k dG).rows=m):=⟨e1,e2⟩
    generalize (gOf t).cells.getD k dG=x at x0 x1 x2 x3 x4 hxo HXe
    clear e1 e2
    by_cases hra:r < a
    ·have hrb:((r:Int) < (a:Int)):=by omega
     have HL1:=Hd (HLt.out hra)
     rw [HL1.out] at HH
     clear HLt HL1 hra
     go_wp2
     exact ⟨⟨r+1,by go_num,by omega,HH.out.kept (k_alloc (Below.refl _ _) _)⟩,by simp [intOf];omega⟩
    have hrn:¬ ((r:Int) < (a:Int)):=by omega
    clear HLt
    by_cases hms:a+m=r+1
    case neg =>
     have hmb:((a:Int)+(m:Int) - 1 == (r:Int))=false:=by simp;omega
     have HS:=Hd (hsL_same (R:=R) HCv.out hms)
     clear hms hra
     go_wp2
     go_roundw
     case rel=>exact ⟨k+1,by go_num,by omega,by rw [HS.out];exact HH.out.kept (k_alloc (Below.refl _ _) _)⟩
     case measure=>simp [intOf];omega
    have hmb:((a:Int)+(m:Int) - 1 == (r:Int))=true:=by simp;omega
    have HS:=Hd (hsL_more (R:=R) HCv.out hms)
    have hcb:=cur_bound (by omega) HRc.out r k
    have hsp:=span_le HRc.out (r:=r) (by omega) a
    have HHi:=Hd (high_hs HRc.out (R:=R) (k:=k) (by omega) hlt HXe.out.1 HXe.out.2 h1 hms)
    have hlen:=hsL_len cs k hlt
    have hm1:=HLa.out k hkl
    go_upto_region 14 with fail
    have HH4:=Hd (HH.out.kept (k_alloc (Below.refl _ _) (.cells #[.int .i64 (a:Int),.int .i64 x.col,.int .i64 (m:Int),.int .i64 x.cols,.int .i64 x.ins] 78)))
    have HC4:=newestB wr (.cells #[.int .i64 (a:Int),.int .i64 x.col,.int .i64 (m:Int),.int .i64 x.cols,.int .i64 x.ins] 78)
    have hcbw:wr.heap.size < (wr.alloc (.cells #[.int .i64 (a:Int),.int .i64 x.col,.int .i64 (m:Int),.int .i64 x.cols,.int .i64 x.ins] 78)).heap.size:=by simp
    generalize wr.alloc (.cells #[.int .i64 (a:Int),.int .i64 x.col,.int .i64 (m:Int),.int .i64 x.cols,.int .i64 x.ins] 78)=W6 at HH4 HC4 hcbw ⊢
    generalize wr.heap.size=cb at HC4 hcbw hbl ⊢
    clear HH x0 x1 x2 x3 x4 hbl hmb hrn hra
    obtain ⟨bl,offl,cl',ul,el,hl1,hl2,hlb,hlx,hls⟩:=(HL5.out.kept HH4.out.1).get (i:=k) (by rw [HLl.out];exact hkl)
    rw [HLl.out] at el hl1
    simp only [Value.slice.injEq,true_and] at el
    obtain ⟨rfl,rfl⟩:=el
    obtain ⟨au,cu,rfl,_⟩:=At.form hls
    unfold maxLen at hl2
    obtain ⟨g3,cap3,eg3,hBg3,hgD3,hgw3,hc13,hc23,hx3,hf3⟩:=HH4.out.2.1.get (i:=r) (by omega)
    rw [hlen] at eg3
    simp only [Value.slice.injEq,Option.some.injEq,Addr.mk.injEq,and_true,true_and] at eg3
    obtain ⟨rfl,rfl⟩:=eg3
    rw [hsL_get] at hx3
    have hne:=bw_some W6
    have m0:=bw_cell (a:=⟨cb,0,none⟩) hcbw (cellB (p:=0) HC4)
    have m1:=bw_cell (a:=⟨cb,1,none⟩) hcbw (cellB (p:=1) HC4)
    have m2:=bw_cell (a:=⟨cb,2,none⟩) hcbw (cellB (p:=2) HC4)
    have m3:=bw_cell (a:=⟨cb,3,none⟩) hcbw (cellB (p:=3) HC4)
    have m4:=bw_cell (a:=⟨cb,4,none⟩) hcbw (cellB (p:=4) HC4)
    have m5:=bw_cell (a:=⟨W5.heap.size,r,none⟩) hgw3 hx3
    have m6:=bw_cell (a:=⟨bl,offl+k,none⟩) hlb hlx
    have KH0:=Hd (fun (p:BW W6)=>bw_of (implHgtCell (.slice (some ⟨W5.heap.size,0,none⟩) R R) (hsL cs R r k) (by omega) x hxo p.u (HH4.out.2.1.at.kept p.h)))
    simp only [HXe.out.1,HXe.out.2,HHi.out] at KH0
    have HN:=Hd (fun W (h:Below W6.heap.size W6 W)=>HH4.out.set (r:=r) (by rw [hlen];exact hlt) h (max (curV cs r k) (((ls.getD k []).length:Int) - ((rowsL cs r).sum - sumTo (rowsL cs r) a))))
    have HSt:=Hd HS.out.symm
    simp only [HSt.out] at HN
    clear HS HSt hx3 hls hf3 HCv HXe HHi hc13 hc23 hgD3 hBg3 HC4 hxo
    generalize (ls.getD k []).length=n at m6 HN hm1
    generalize (rowsL cs r).sum - sumTo (rowsL cs r) a=Y at KH0 HN hsp
    generalize curV cs r k=y at hcb m5 HN KH0
    have HAL:=Hd (add_lack y (n:Int) Y)
    have t3:(r:Int) < (R:Int):=by omega
    have t4:(k:Int) < ((gOf t).cells.length:Int):=by omega
    refine wp_region_last 16 hmx (by rfl) (by rfl) (by kernel_rfl) (by kernel_rfl) ?_
    simp only [List.take_succ_cons,List.take_zero]
    repeat (go_big_quiet_step (first | (go_at_call 50;refine KH0.out _)))
    refine wpQuiet_nil ?_
    intro W7 hw'
    obtain ⟨⟨Wx,hW7⟩,hw''⟩:=hw'
    subst hw''
    have HN7:=Hd (HN.out _ hW7)
    rw [← HAL.out] at HN7
    obtain ⟨g5,cap5,e5,_,_,hgw5,_,_,hx5,hf5⟩:=(HH4.out.2.1.kept (fun j h0 _ _=>hW7.block j h0)).get (i:=r) (by rw [hlen];exact hlt)
    simp only [Value.slice.injEq,Option.some.injEq,Addr.mk.injEq,and_true] at e5
    have eg:=e5.1
    clear e5
    subst eg
    clear m0 m1 m2 m3 m4 m5 m6 HN hne KH0 hW7 HH4
    rw [if_pos (by rfl)]
    go_simp
    go_wp2
    go_roundw
    case rel=>exact ⟨k+1,by go_num,by omega,HN7⟩
    case measure=>simp [intOf];omega
end Go.Proofs.YtojogjlblgcioanGreat
