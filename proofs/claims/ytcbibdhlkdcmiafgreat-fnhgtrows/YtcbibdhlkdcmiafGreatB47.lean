/-
  PROVED HERE: the law FnHgtRows returns true at every code that lies in memory.
-/
import Derived.Test.YtcbibdhlkdcmiafGreatB40
import Derived.Test.YtcbibdhlkdcmiafGreatB45
import Derived.Test.YtcbibdhlkdcmiafGreatB32
import Derived.Test.YtcbibdhlkdcmiafGreatB46
namespace Go.Proofs.YtcbibdhlkdcmiafGreat
open Go.RowKit Go.BigFrame

theorem cellRR {w:World} {g:Nat} {x0 x1 x2 x3 x4:Value} {t:TypeId} (h:w.heap[g]?=some (.cells #[x0,x1,x2,x3,x4] t)) (hg:g < w.heap.size):(∀ p:BW w,p.u.cell? ⟨g,0,none⟩=some x0)∧(∀ p:BW w,p.u.cell? ⟨g,1,none⟩=some x1)∧(∀ p:BW w,p.u.cell? ⟨g,2,none⟩=some x2)∧(∀ p:BW w,p.u.cell? ⟨g,3,none⟩=some x3)∧(∀ p:BW w,p.u.cell? ⟨g,4,none⟩=some x4) :=
 ⟨bw_cell (a:=⟨g,0,none⟩) hg (cellB (p:=0) h),bw_cell (a:=⟨g,1,none⟩) hg (cellB (p:=1) h),bw_cell (a:=⟨g,2,none⟩) hg (cellB (p:=2) h),bw_cell (a:=⟨g,3,none⟩) hg (cellB (p:=3) h),bw_cell (a:=⟨g,4,none⟩) hg (cellB (p:=4) h)⟩
set_option maxRecDepth 100000 in
set_option maxHeartbeats 4000000 in
theorem lawHR_walk (A:Option Addr) (len cap:Nat) (hlen:len≤1048576) (w:World) (h:IsCode w A len cap) :
  Calls Tryz.prog 5 #[.slice A len cap] w fun e w'=>e=.returned (.bool true)∧Below w.heap.size w w':=by
 have hl:¬ (1048576:Int) < (len:Int):=by omega
 have hmx:Tryz.prog.follows .mixedOrders=true:=by kernel_rfl
 have HD:=Hid.intro h
 clear h
 go_enter Tryz.func5,Tryz.ntmps5
 go_wp2_with fail
 refine (drawHgtRows_any _ _ _ _ HD.out).mono ?_
 rintro e w1 ⟨ac,ar,cc,cr,t,x,rfl,hD,hxb,hC1,hW1,hb1⟩
 have HS:Hid (St w w1.heap.size ac ar cc cr t (w1.alloc (.cells #[.slice ac t.cols.length cc,.int .i64 t.head,.int .i64 t.foot,.slice ar t.rows.length cr,.int .i64 t.gap] 26))):=⟨hb1.alloc hb1.size _,TA.kept ⟨hC1,hW1⟩ (k_alloc (Below.refl _ _) _),newestB _ _⟩
 have HGk:=Hid.intro (gOf_gok hD)
 have h40:=gLen hD
 have HF:=Hid.intro (fun hp=>hgt_facts hD (x:=x) hp)
 have HY:=Hid.intro (fun hp=>rowsT_yes (t:=t) (x:=x) hp)
 have HN:=Hid.intro (fun hp=>rowsT_no (t:=t) (x:=x) hp)
 have HRi:=Hid.intro (fun W (h:TA W w.heap.size ac ar cc cr t)=>implHgtRows ac ar cc cr t hD x W h.1 h.2)
 have HRs:=Hid.intro (fun W (h:TA W w.heap.size ac ar cc cr t)=>specHgtRows ac ar cc cr t hD x W h.1 h.2)
 have HLi:=Hid.intro (fun W (h:TA W w.heap.size ac ar cc cr t)=>implHgtLines ac ar cc cr t hD x W h.1 h.2)
 have HLs:=Hid.intro (fun W (h:TA W w.heap.size ac ar cc cr t)=>specHgtLines ac ar cc cr t hD x W h.1 h.2)
 have HGo:=Hid.intro (fun W (h:TA W w.heap.size ac ar cc cr t)=>implGrdOf ac ar cc cr t hD W h.1 h.2)
 have HOs:=Hid.intro (fun W (h:TA W w.heap.size ac ar cc cr t)=>specTblOk ac ar cc cr t W h.1 h.2)
 have HR8:=Hid.intro (fun hp=>tRows hD (t:=t) (rowsT_yes (x:=x) hp).1)
 clear HY
 generalize rowsT t x=RL at HF HN HRi HRs HR8
 generalize linesT t x=LL at HF HLi HLs
 clear hC1 hW1 hb1 hD HD
 go_upto_region 4 with fail
 generalize w1.alloc (.cells #[.slice ac t.cols.length cc,.int .i64 t.head,.int .i64 t.foot,.slice ar t.rows.length cr,.int .i64 t.gap] 26)=W1 at HS ⊢
 generalize w1.heap.size=tb at HS ⊢
 obtain ⟨z0,z1,z2,z3,z4⟩:=HS.out.at
 go_wp2_with fail
 refine (HRi.out _ HS.out.2.1).mono ?_
 rintro e w2 ⟨v2,rfl,hR2,hb2⟩
 obtain ⟨al,cl,rfl⟩:=hR2.form
 have HI:=Hid.intro hR2.at
 replace HS:=Hid.intro (HS.out.kept hb2)
 clear hR2 hb2 z0 z1 z2 z3 z4 HRi
 obtain ⟨z0,z1,z2,z3,z4⟩:=HS.out.at
 go_wp2_with fail
 refine (HLi.out _ HS.out.2.1).mono ?_
 rintro e w3 ⟨v3,rfl,hR3,hb3⟩
 obtain ⟨a3,c3,rfl,_⟩:=At.form hR3
 have HJ:=Hid.intro hR3
 replace HI:=Hid.intro (HI.out.kept hb3)
 replace HS:=Hid.intro (HS.out.kept hb3)
 clear hR3 hb3 z0 z1 z2 z3 z4 HLi
 obtain ⟨z0,z1,z2,z3,z4⟩:=HS.out.at
 go_wp2_with fail
 refine (HRs.out _ HS.out.2.1).mono ?_
 rintro e w4 ⟨v4,rfl,hR4,hb4⟩
 obtain ⟨a4,c4,rfl⟩:=hR4.form
 have HI4:=Hid.intro hR4.at
 replace HI:=Hid.intro (HI.out.kept hb4)
 replace HJ:=Hid.intro (HJ.out.kept hb4)
 replace HS:=Hid.intro (HS.out.kept hb4)
 clear hR4 hb4 z0 z1 z2 z3 z4 HRs
 go_wp2_with fail
 refine (pwInts_any _ _ RL _ HI.out HI4.out).mono ?_
 rintro e w5 ⟨rfl,n5,e5⟩
 have hb5:Below w4.heap.size w4 w5:=by rw [e5];exact k_drewN (Below.refl _ _) n5
 replace HI:=Hid.intro (HI.out.kept hb5)
 replace HJ:=Hid.intro (HJ.out.kept hb5)
 replace HS:=Hid.intro (HS.out.kept hb5)
 clear hb5 e5 HI4
 obtain ⟨z0,z1,z2,z3,z4⟩:=HS.out.at
 go_wp2_with fail
 refine (HLs.out _ HS.out.2.1).mono ?_
 rintro e w6 ⟨v6,rfl,hR6,hb6⟩
 have HJ6:=Hid.intro hR6
 obtain ⟨a6,c6,rfl,_⟩:=At.form hR6
 replace HI:=Hid.intro (HI.out.kept hb6)
 replace HJ:=Hid.intro (HJ.out.kept hb6)
 replace HS:=Hid.intro (HS.out.kept hb6)
 clear hR6 hb6 z0 z1 z2 z3 z4 HLs
 go_wp2_with fail
 refine (pwAll_any _ _ LL _ HJ.out HJ6.out).mono ?_
 rintro e w7 ⟨rfl,hb7⟩
 replace HI:=Hid.intro (HI.out.kept hb7)
 replace HJ:=Hid.intro (HJ.out.kept hb7)
 replace HS:=Hid.intro (HS.out.kept hb7)
 clear hb7 HJ6
 obtain ⟨z0,z1,z2,z3,z4⟩:=HS.out.at
 by_cases hz:RL.length=0
 case pos=>as_aux_lemma =>
  have hno:=HN.out hz
  have KO:=Hid.intro (HOs.out w7 HS.out.2.1)
  have hRz:RL=[]:=List.eq_nil_of_length_eq_zero hz
  subst hRz
  clear HF HN HR8 HGo HOs hz
  cases htk:tblB t with
  | false =>
   rw [htk] at KO
   clear htk hno
   go_wp2_with fail
   refine KO.out.mono ?_
   rintro e w8 ⟨rfl,hb8⟩
   replace HS:=Hid.intro (HS.out.kept hb8)
   clear hb8 KO z0 z1 z2 z3 z4
   go_wp2_with fail
   refine (pwOk_any _).mono ?_
   rintro e w9 ⟨rfl,rfl⟩
   go_wp2
   go_ret
   exact ⟨rfl,HS.out.1⟩
  | true =>
   rw [htk] at KO
   have hx:x < 0∨300 < x:=by
    have:¬ (0≤x∧x≤300):=fun h=>hno ⟨htk,h⟩
    omega
   clear htk hno
   rcases hx with hx | hx
   case' inr=>have hx0:¬ x < 0:=by omega
   all_goals
    go_wp2_with fail
    refine KO.out.mono ?_
    rintro e w8 ⟨rfl,hb8⟩
    replace HS:=Hid.intro (HS.out.kept hb8)
    clear hb8 KO z0 z1 z2 z3 z4
    go_wp2_with fail
    refine (pwOk_any _).mono ?_
    rintro e w9 ⟨rfl,rfl⟩
    go_wp2
    go_ret
    exact ⟨rfl,HS.out.1⟩
 case neg=>as_aux_lemma =>
  obtain ⟨f1,f2,f3,f4,f5⟩:=HF.out hz
  have HF1:=Hid.intro f1
  have HF2:=Hid.intro f2
  have HF3:=Hid.intro f3
  have HF4:=Hid.intro f4
  have HF5:=Hid.intro f5
  have hr8:RL.length≤8:=by rw [f1];exact HR8.out hz
  have hzb:((RL.length:Int) == 0)=false:=beq_eq_false_iff_ne.2 (by omega)
  clear HF HN HOs f1 f2 f3 f4 f5 HR8
  go_wp2_with fail
  refine (HGo.out _ HS.out.2.1).mono ?_
  rintro e w8 ⟨vg,rfl,hO8,hb8⟩
  obtain ⟨ag,cg,rfl⟩:=own_slice hO8
  have hG8:=hO8.at HGk.out
  have KA:=k_alloc (Below.refl w8.heap.size w8) (.cells #[.int .i64 (gOf t).rows,.int .i64 (gOf t).cols,.slice ag (gOf t).cells.length cg] 46)
  have HGr0:Hid (SGr w tb w8.heap.size ac ar cc cr t ag cg (w8.alloc (.cells #[.int .i64 (gOf t).rows,.int .i64 (gOf t).cols,.slice ag (gOf t).cells.length cg] 46))) :=
   ⟨(HS.out.kept hb8).kept KA,(hG8.base (z':=w.heap.size) HS.out.1.size).kept KA,newestB _ _⟩
  have HI0:=Hid.intro ((HI.out.kept hb8).kept KA)
  have HJ0:=Hid.intro ((HJ.out.kept hb8).kept KA)
  clear hO8 hb8 hG8 HS HI HJ KA z0 z1 z2 z3 z4 HGo
  go_upto_region 11 with fail
  generalize w8.alloc (.cells #[.int .i64 (gOf t).rows,.int .i64 (gOf t).cols,.slice ag (gOf t).cells.length cg] 46)=W8 at HGr0 HI0 HJ0 ⊢
  generalize w8.heap.size=gb at HGr0 ⊢
  go_wp2_with fail
  go_loopw [8] (fun s W=>∃ k:Nat,s=.int .i64 k∧k≤(gOf t).cells.length∧Hid (Below W8.heap.size W8 W)) (fun s _=>(gOf t).cells.length - (intOf s).toNat)
  case atStart=>exact ⟨0,rfl,Nat.zero_le _,Below.refl _ _⟩
  case round =>
   obtain ⟨k,rfl,hk,HB⟩:=hrel
   have HGr:=Hid.intro (HGr0.out.kept HB.out)
   have HIr:=Hid.intro (HI0.out.kept HB.out)
   have HJr:=Hid.intro (HJ0.out.kept HB.out)
   obtain ⟨y0,y1,y2⟩:=HGr.out.at
   by_cases hkl:k < (gOf t).cells.length
   case pos=>as_aux_lemma =>
    obtain ⟨b,off,cap',e',hc1,hc2,hbl,hx,hgo⟩:=At.get HGr.out.2.1 hkl
    simp only [Value.slice.injEq,true_and] at e'
    obtain ⟨rfl,rfl⟩:=e'
    unfold maxLen at hc2
    have hno:=HF3.out k hkl
    obtain ⟨bl,offl,cl',ul,el,hl1,hl2,hlb,hlx,hls⟩:=HJr.out.get (i:=k) (by rw [HF2.out];exact hkl)
    simp only [Value.slice.injEq,true_and] at el
    obtain ⟨rfl,rfl⟩:=el
    rw [HF2.out] at hl1
    generalize LL.getD k []=ln at hls hno
    obtain ⟨au,cu,rfl,_⟩:=At.form hls
    unfold maxLen at hl2
    generalize (gOf t).cells.getD k dG=xc at hx hgo hno
    obtain ⟨x0,x1,x2,x3,x4⟩:=hx
    have hgb:=(Array.getElem?_eq_some_iff.1 HGr.out.2.2).1
    have hne:=bw_some wr
    have m0:=bw_cell (a:=⟨gb,2,none⟩) hgb y2
    have m1:=bw_cell hbl x0
    have m2:=bw_cell hbl x1
    have m3:=bw_cell hbl x2
    have m4:=bw_cell hbl x3
    have m5:=bw_cell hbl x4
    have m6:=bw_cell (a:=⟨bl,offl+k,none⟩) hlb hlx
    have KH:=Hid.intro (fun (p:BW wr)=>bw_of (implHgtCell (.slice al RL.length cl) RL (by omega) xc hgo p.u (HIr.out.kept p.h)))
    generalize highV RL xc=hv at KH hno
    generalize ln.length=nl at m6 hno
    have t1:(k:Int) < ((gOf t).cells.length:Int):=by omega
    have t2:(k:Int) < (LL.length:Int):=by rw [HF2.out];exact t1
    have t3:k < LL.length:=by rw [HF2.out];exact hkl
    clear hls hlx x0 x1 x2 x3 x4 hgo y0 y1
    go_upto_region 14 with fail
    clear y2
    refine wp_region_quiet_below hmx (by kernel_rfl) ?_
    repeat (go_big_quiet_step (first | (go_at_call 28;refine KH.out _)))
    refine wpQuiet_nil ?_
    intro W9 hw'
    obtain ⟨⟨Wx,hW9⟩,hw''⟩:=hw'
    subst hw''
    have HB9:=Hid.intro (k_trans HB.out hW9)
    clear m0 m1 m2 m3 m4 m5 m6 hne hW9 KH
    go_wp2
    go_roundw
    case rel=>exact ⟨k+1,by go_num,by omega,HB9⟩
    case measure=>simp [intOf];omega
   obtain rfl:k=(gOf t).cells.length:=by omega
   clear HGr0 HI0 HJ0 hkl hk
   go_wp2_with fail
   go_loopw [9] (fun s W=>∃ r:Nat,s=.int .i64 r∧r≤RL.length∧Hid (Below wr.heap.size wr W)) (fun s _=>RL.length - (intOf s).toNat)
   case atStart=>exact ⟨0,rfl,Nat.zero_le _,Below.refl _ _⟩
   case round=>as_aux_lemma =>
    obtain ⟨r,rfl,hr,HB2⟩:=hrel
    have HGs:=Hid.intro (HGr.out.kept HB2.out)
    have HIs:=Hid.intro (HIr.out.kept HB2.out)
    have HJs:=Hid.intro (HJr.out.kept HB2.out)
    clear HGr HIr HJr y0 y1 y2
    obtain ⟨z0,z1,z2,z3,z4⟩:=HGs.out.1.at
    by_cases hrl:r < RL.length
    case neg =>
     obtain rfl:r=RL.length:=by omega
     have hle:((RL.length:Int) == (t.rows.length:Int))=true:=by rw [HF1.out];simp
     go_wp2
     go_ret
     exact ⟨rfl,HGs.out.1.1⟩
    obtain ⟨b1,o1,c1',e1,hc11,hc12,hb1,hx1⟩:=HIs.out.get hrl
    simp only [Value.slice.injEq,true_and] at e1
    obtain ⟨rfl,rfl⟩:=e1
    unfold maxLen at hc12
    have HNd:Hid ((RL.getD r 0 == 0)=true∨∃ k,k < (gOf t).cells.length∧((r:Int) == ((gOf t).cells.getD k dG).row+((gOf t).cells.getD k dG).rows - 1 && highV RL ((gOf t).cells.getD k dG) == ((LL.getD k []).length:Int))=true):=by
     rcases HF4.out r (by rw [← HF1.out];exact hrl) with h1 | ⟨k,hk,h1,h2⟩
     ·exact .inl (by rw [h1];rfl)
     ·exact .inr ⟨k,hk,by rw [Bool.and_eq_true];exact ⟨by simpa using h1,by simpa using h2⟩⟩
    have HNt:=Hid.intro (needB_true HNd.out)
    generalize hP:(fun k=>((r:Int) == ((gOf t).cells.getD k dG).row+((gOf t).cells.getD k dG).rows - 1 && highV RL ((gOf t).cells.getD k dG) == ((LL.getD k []).length:Int)))=P at HNt
    have HP:Hid (∀ k,P k=((r:Int) == ((gOf t).cells.getD k dG).row+((gOf t).cells.getD k dG).rows - 1 && highV RL ((gOf t).cells.getD k dG) == ((LL.getD k []).length:Int))):=fun k=>by rw [← hP]
    clear hP HNd
    generalize RL.getD r 0=rv at hx1 HNt
    go_wp2_with fail
    go_loopw [11,10] (fun s q W=>∃ k:Nat,s=.int .i64 k∧k≤(gOf t).cells.length∧q=.bool (needB P (rv == 0) k)∧Hid (Below wr.heap.size wr W)) (fun s _ _=>(gOf t).cells.length - (intOf s).toNat)
    case atStart=>exact ⟨0,rfl,Nat.zero_le _,rfl,Below.refl _ _⟩
    case round=>as_aux_lemma =>
     obtain ⟨k,rfl,hk,rfl,HB3⟩:=hrel
     have HGt:=Hid.intro (HGs.out.kept HB3.out)
     have HIt:=Hid.intro (HIs.out.kept HB3.out)
     have HJt:=Hid.intro (HJs.out.kept HB3.out)
     clear HGs HIs HJs z0 z1 z2 z3 z4 hx1
     obtain ⟨y0,y1,y2⟩:=HGt.out.at
     by_cases hkl:k < (gOf t).cells.length
     case neg =>
      obtain rfl:k=(gOf t).cells.length:=by omega
      have HB5:=Hid.intro (HB2.out.trans (HB3.out.mono HB2.out.size))
      rw [HNt.out]
      go_wp2
      go_roundw
      case rel=>exact ⟨r+1,by go_num,by omega,HB5⟩
      case measure=>simp [intOf];omega
     obtain ⟨b,off,cap',e',hc1,hc2,hbl,hx,hgo⟩:=At.get HGt.out.2.1 hkl
     simp only [Value.slice.injEq,true_and] at e'
     obtain ⟨rfl,rfl⟩:=e'
     unfold maxLen at hc2
     have hsm:=HF5.out k hkl
     have HNk:Hid (needB P (rv == 0) (k+1)=(needB P (rv == 0) k || ((r:Int) == ((gOf t).cells.getD k dG).row+((gOf t).cells.getD k dG).rows - 1 && highV RL ((gOf t).cells.getD k dG) == ((LL.getD k []).length:Int)))):=by rw [Hid,needB,HP.out k]
     obtain ⟨bl,offl,cl',ul,el,hl1,hl2,hlb0,hlx0,hls0⟩:=HJt.out.get (i:=k) (by rw [HF2.out];exact hkl)
     simp only [Value.slice.injEq,true_and] at el
     obtain ⟨rfl,rfl⟩:=el
     rw [HF2.out] at hl1
     generalize LL.getD k []=ln at hls0 HNk
     obtain ⟨au,cu,rfl,_⟩:=At.form hls0
     unfold maxLen at hl2
     generalize (gOf t).cells.getD k dG=xc at hx hgo hsm HNk
     obtain ⟨x0,x1,x2,x3,x4⟩:=hx
     have t1:(k:Int) < ((gOf t).cells.length:Int):=by omega
     have t2:(k:Int) < (LL.length:Int):=by rw [HF2.out];exact t1
     have t3:k < LL.length:=by rw [HF2.out];exact hkl
     go_upto_region 24 with fail
     have KA:=k_alloc (Below.refl wr.heap.size wr) (.cells #[.int .i64 xc.row,.int .i64 xc.col,.int .i64 xc.rows,.int .i64 xc.cols,.int .i64 xc.ins] 50)
     have HB4:=Hid.intro (k_trans HB3.out KA)
     have HC4:=newestB wr (.cells #[.int .i64 xc.row,.int .i64 xc.col,.int .i64 xc.rows,.int .i64 xc.cols,.int .i64 xc.ins] 50)
     have hcw:wr.heap.size < (wr.alloc (.cells #[.int .i64 xc.row,.int .i64 xc.col,.int .i64 xc.rows,.int .i64 xc.cols,.int .i64 xc.ins] 50)).heap.size:=by simp
     have hlx:=(KA.cell (p:=⟨bl,offl+k,none⟩) hlb0).trans hlx0
     have hlb:=Nat.lt_of_lt_of_le hlb0 KA.size
     have HIw:=Hid.intro (HIt.out.kept KA)
     clear KA hlx0 hlb0 hls0 HGt HIt HJt y0 y1 y2 x0 x1 x2 x3 x4 hbl
     generalize wr.alloc (.cells #[.int .i64 xc.row,.int .i64 xc.col,.int .i64 xc.rows,.int .i64 xc.cols,.int .i64 xc.ins] 50)=W4 at HB4 HC4 hcw hlx hlb HIw ⊢
     generalize wr.heap.size=cb at HC4 hcw ⊢
     have hne:=bw_some W4
     obtain ⟨m0,m1,m2,m3,m4⟩:=cellRR HC4 hcw
     have m6:=bw_cell (a:=⟨bl,offl+k,none⟩) hlb hlx
     have KH:=Hid.intro (fun (p:BW W4)=>bw_of (implHgtCell (.slice (some ⟨b1,o1,none⟩) RL.length cl) RL (by omega) xc hgo p.u (HIw.out.kept p.h)))
     generalize highV RL xc=hv at KH HNk
     generalize ln.length=nl at m6 HNk
     generalize needB P (rv == 0) k=nd at HNk
     clear hlx HC4 hgo HIw HNt HP
     cases nd with
     | true =>
      refine wp_region_quiet_below hmx (by kernel_rfl) ?_
      repeat (go_big_quiet_step (first | (go_at_call 28;refine KH.out _)))
      refine wpQuiet_nil ?_
      intro W9 hw'
      obtain ⟨⟨Wx,hW9⟩,hw''⟩:=hw'
      subst hw''
      have HB9:=Hid.intro (k_trans HB4.out hW9)
      clear m0 m1 m2 m3 m4 m6 hne hW9 KH
      go_wp2
      go_roundw
      case rel=>exact ⟨k+1,by go_num,by omega,by rw [HNk.out];rfl,HB9⟩
      case measure=>simp [intOf];omega
     | false =>
      by_cases he:(r:Int)=xc.row+xc.rows - 1
      case neg =>
       have heb:((r:Int) == xc.row+xc.rows - 1)=false:=beq_eq_false_iff_ne.2 he
       clear he
       refine wp_region_quiet_below hmx (by kernel_rfl) ?_
       repeat (go_big_quiet_step (first | (go_at_call 28;refine KH.out _)))
       refine wpQuiet_nil ?_
       intro W9 hw'
       obtain ⟨⟨Wx,hW9⟩,hw''⟩:=hw'
       subst hw''
       have HB9:=Hid.intro (k_trans HB4.out hW9)
       clear m0 m1 m2 m3 m4 m6 hne hW9 KH
       go_wp2
       go_roundw
       case rel=>exact ⟨k+1,by go_num,by omega,by rw [HNk.out,heb];rfl,HB9⟩
       case measure=>simp [intOf];omega
      case pos =>
       have heb:((r:Int) == xc.row+xc.rows - 1)=true:=by rw [he];simp
       clear he
       refine wp_region_quiet_below hmx (by kernel_rfl) ?_
       repeat (go_big_quiet_step (first | (go_at_call 28;refine KH.out _)))
       refine wpQuiet_nil ?_
       intro W9 hw'
       obtain ⟨⟨Wx,hW9⟩,hw''⟩:=hw'
       subst hw''
       have HB9:=Hid.intro (k_trans HB4.out hW9)
       clear m0 m1 m2 m3 m4 m6 hne hW9 KH
       go_wp2
       go_roundw
       case rel=>exact ⟨k+1,by go_num,by omega,by rw [HNk.out,heb];simp,HB9⟩
       case measure=>simp [intOf];omega

theorem lawHgtRows (a:Option Addr) (len cap:Nat) (w:World) (h:IsCode w a len cap) :
  Calls Tryz.prog 5 #[.slice a len cap] w fun e w'=>e=.returned (.bool true)∧Below w.heap.size w w':=by
 by_cases hl:len≤1048576
 ·exact lawHR_walk a len cap hl w h
 ·have hl':(1048576:Int) < (len:Int):=by omega
  clear h
  go_enter Tryz.func5,Tryz.ntmps5
  go_wp2
  go_ret
  exact ⟨rfl,Below.refl _ _⟩
end Go.Proofs.YtcbibdhlkdcmiafGreat
