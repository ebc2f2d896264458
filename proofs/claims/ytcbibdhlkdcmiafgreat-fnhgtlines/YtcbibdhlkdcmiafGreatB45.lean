/-
  PROVED HERE: the law FnHgtLines returns true at every code that lies in memory.
-/
import Derived.Test.YtcbibdhlkdcmiafGreatB39
import Derived.Test.YtcbibdhlkdcmiafGreatB43
import Derived.Test.YtcbibdhlkdcmiafGreatB32
import Derived.Test.YtcbibdhlkdcmiafGreatB44
namespace Go.Proofs.YtcbibdhlkdcmiafGreat
open Go.RowKit Go.BigFrame

theorem cellsL5 {w:World} {g:Nat} {x0 x1 x2 x3 x4:Value} {t:TypeId} (h:w.heap[g]?=some (.cells #[x0,x1,x2,x3,x4] t)) (hg:g < w.heap.size):(∀ p:BW w,p.u.cell? ⟨g,0,none⟩=some x0)∧(∀ p:BW w,p.u.cell? ⟨g,1,none⟩=some x1)∧(∀ p:BW w,p.u.cell? ⟨g,2,none⟩=some x2)∧(∀ p:BW w,p.u.cell? ⟨g,3,none⟩=some x3)∧(∀ p:BW w,p.u.cell? ⟨g,4,none⟩=some x4) :=
 ⟨bw_cell (a:=⟨g,0,none⟩) hg (cellB (p:=0) h),bw_cell (a:=⟨g,1,none⟩) hg (cellB (p:=1) h),bw_cell (a:=⟨g,2,none⟩) hg (cellB (p:=2) h),bw_cell (a:=⟨g,3,none⟩) hg (cellB (p:=3) h),bw_cell (a:=⟨g,4,none⟩) hg (cellB (p:=4) h)⟩
set_option maxRecDepth 100000 in
set_option maxHeartbeats 4000000 in
theorem lawHL_walk (A:Option Addr) (len cap:Nat) (hlen:len≤1048576) (w:World) (h:IsCode w A len cap) :
  Calls Tryz.prog 6 #[.slice A len cap] w fun e w'=>e=.returned (.bool true)∧Below w.heap.size w w':=by
 have hl:¬ (1048576:Int) < (len:Int):=by omega
 have hmx:Tryz.prog.follows .mixedOrders=true:=by kernel_rfl
 have HD:=Hid.intro h
 clear h
 go_enter Tryz.func6,Tryz.ntmps6
 go_wp2_with fail
 refine (drawHgtLines_any _ _ _ _ HD.out).mono ?_
 rintro e w1 ⟨ac,ar,cc,cr,t,x,rfl,hD,hxb,hC1,hW1,hb1⟩
 have HS:Hid (St w w1.heap.size ac ar cc cr t (w1.alloc (.cells #[.slice ac t.cols.length cc,.int .i64 t.head,.int .i64 t.foot,.slice ar t.rows.length cr,.int .i64 t.gap] 26))):=⟨hb1.alloc hb1.size _,TA.kept ⟨hC1,hW1⟩ (k_alloc (Below.refl _ _) _),newestB _ _⟩
 have HGk:=Hid.intro (gOf_gok hD)
 obtain ⟨h40,C,hgc,hC88,hcel⟩:=cel_of hD
 have HCel:=Hid.intro hcel
 have hWn:(widT t x).length≤1048576:=by
  unfold widT
  split
  ·rename_i hm
   rw [Bool.and_eq_true] at hm
   obtain ⟨_,e2,_⟩:=acr_wid hD hm.1 (width:=x) (by simpa [inB] using hm.2)
   rw [e2,colN_of hgc];omega
  ·exact Nat.zero_le _
 have HF:=Hid.intro (hl_facts hD x)
 have HLi:=Hid.intro (fun W (h:TA W w.heap.size ac ar cc cr t)=>implHgtLines ac ar cc cr t hD x W h.1 h.2)
 have HLs:=Hid.intro (fun W (h:TA W w.heap.size ac ar cc cr t)=>specHgtLines ac ar cc cr t hD x W h.1 h.2)
 have HWi:=Hid.intro (fun W (h:TA W w.heap.size ac ar cc cr t)=>implWidCols ac ar cc cr t hD x W h.1 h.2)
 have HGo:=Hid.intro (fun W (h:TA W w.heap.size ac ar cc cr t)=>implGrdOf ac ar cc cr t hD W h.1 h.2)
 generalize widT t x=WL at HF HWi hWn
 generalize linesT t x=LL at HF HLi HLs
 clear hC1 hW1 hb1 hD HD hcel hgc
 go_upto_region 4 with fail
 generalize w1.alloc (.cells #[.slice ac t.cols.length cc,.int .i64 t.head,.int .i64 t.foot,.slice ar t.rows.length cr,.int .i64 t.gap] 26)=W1 at HS ⊢
 generalize w1.heap.size=tb at HS ⊢
 obtain ⟨z0,z1,z2,z3,z4⟩:=HS.out.at
 go_wp2_with fail
 refine (HLi.out _ HS.out.2.1).mono ?_
 rintro e w3 ⟨v3,rfl,hR3,hb3⟩
 obtain ⟨a3,c3,rfl,_⟩:=At.form hR3
 have HJ:=Hid.intro hR3
 replace HS:=Hid.intro (HS.out.kept hb3)
 clear hR3 hb3 z0 z1 z2 z3 z4 HLi
 obtain ⟨z0,z1,z2,z3,z4⟩:=HS.out.at
 go_wp2_with fail
 refine (HLs.out _ HS.out.2.1).mono ?_
 rintro e w6 ⟨v6,rfl,hR6,hb6⟩
 have HJ6:=Hid.intro hR6
 obtain ⟨a6,c6,rfl,_⟩:=At.form hR6
 replace HJ:=Hid.intro (HJ.out.kept hb6)
 replace HS:=Hid.intro (HS.out.kept hb6)
 clear hR6 hb6 z0 z1 z2 z3 z4 HLs
 go_wp2_with fail
 refine (pwAll_any _ _ LL _ HJ.out HJ6.out).mono ?_
 rintro e w7 ⟨rfl,hb7⟩
 replace HJ:=Hid.intro (HJ.out.kept hb7)
 replace HS:=Hid.intro (HS.out.kept hb7)
 clear hb7 HJ6
 obtain ⟨z0,z1,z2,z3,z4⟩:=HS.out.at
 go_wp2_with fail
 refine (HWi.out _ HS.out.2.1).mono ?_
 rintro e w2 ⟨v2,rfl,hR2,hb2⟩
 obtain ⟨al,cl,rfl⟩:=hR2.form
 have HI:=Hid.intro hR2.at
 replace HJ:=Hid.intro (HJ.out.kept hb2)
 replace HS:=Hid.intro (HS.out.kept hb2)
 clear hR2 hb2 z0 z1 z2 z3 z4 HWi
 obtain ⟨z0,z1,z2,z3,z4⟩:=HS.out.at
 go_wp2_with fail
 refine (HGo.out _ HS.out.2.1).mono ?_
 rintro e w8 ⟨vg,rfl,hO8,hb8⟩
 obtain ⟨ag,cg,rfl⟩:=own_slice hO8
 have hG8:=hO8.at HGk.out
 have KA:=k_alloc (Below.refl w8.heap.size w8) (.cells #[.int .i64 (gOf t).rows,.int .i64 (gOf t).cols,.slice ag (gOf t).cells.length cg] 46)
 have HGr0:Hid (SGr w tb w8.heap.size ac ar cc cr t ag cg (w8.alloc (.cells #[.int .i64 (gOf t).rows,.int .i64 (gOf t).cols,.slice ag (gOf t).cells.length cg] 46))) :=
  ⟨(HS.out.kept hb8).kept KA,(hG8.base (z':=w.heap.size) HS.out.1.size).kept KA,newestB _ _⟩
 have HI0:=Hid.intro ((HI.out.kept hb8).kept KA)
 have HJ0:=Hid.intro ((HJ.out.kept hb8).kept KA)
 clear hO8 hb8 hG8 HS HI HJ KA z0 z1 z2 z3 z4 HGo
 go_upto_region 9 with fail
 generalize w8.alloc (.cells #[.int .i64 (gOf t).rows,.int .i64 (gOf t).cols,.slice ag (gOf t).cells.length cg] 46)=W8 at HGr0 HI0 HJ0 ⊢
 generalize w8.heap.size=gb at HGr0 ⊢
 go_wp2_with fail
 go_loopw [8] (fun s W=>∃ k:Nat,s=.int .i64 k∧k≤LL.length∧Hid (Below W8.heap.size W8 W)) (fun s _=>LL.length - (intOf s).toNat)
 case atStart=>exact ⟨0,rfl,Nat.zero_le _,Below.refl _ _⟩
 case round =>
  obtain ⟨k,rfl,hk,HB⟩:=hrel
  have HGr:=Hid.intro (HGr0.out.kept HB.out)
  have HIr:=Hid.intro (HI0.out.kept HB.out)
  have HJr:=Hid.intro (HJ0.out.kept HB.out)
  obtain ⟨y0,y1,y2⟩:=HGr.out.at
  by_cases hkl:k < LL.length
  case neg =>
   obtain rfl:k=LL.length:=by omega
   have HK:=Hid.intro HGr.out.1.1
   rcases HF.out.ends with he | he
   ·have heb:((LL.length:Int) == ((gOf t).cells.length:Int))=true:=by rw [he];simp
    go_wp2_with fail
    refine (pwOk_any _).mono ?_
    rintro e w9 ⟨rfl,rfl⟩
    go_wp2
    go_ret
    exact ⟨rfl,HK.out⟩
   ·have hWz:WL=[]:=List.eq_nil_of_length_eq_zero he
    subst hWz
    by_cases heq:LL.length=(gOf t).cells.length
    ·have heb:((LL.length:Int) == ((gOf t).cells.length:Int))=true:=by rw [heq];simp
     go_wp2_with fail
     refine (pwOk_any _).mono ?_
     rintro e w9 ⟨rfl,rfl⟩
     go_wp2
     go_ret
     exact ⟨rfl,HK.out⟩
    ·have heb:((LL.length:Int) == ((gOf t).cells.length:Int))=false:=beq_eq_false_iff_ne.2 (by omega)
     go_wp2_with fail
     refine (pwOk_any _).mono ?_
     rintro e w9 ⟨rfl,rfl⟩
     go_wp2
     go_ret
     exact ⟨rfl,HK.out⟩
  have hkc:k < (gOf t).cells.length:=Nat.lt_of_lt_of_le hkl HF.out.le
  obtain ⟨b,off,cap',e',hc1,hc2,hbl,hx,hgo⟩:=At.get HGr.out.2.1 hkc
  simp only [Value.slice.injEq,true_and] at e'
  obtain ⟨rfl,rfl⟩:=e'
  unfold maxLen at hc2
  obtain ⟨hjn,htot⟩:=HF.out.join k hkl
  have HWd:=Hid.intro (HF.out.wide k hkl)
  obtain ⟨bl,offl,cl',ul,el,hl1,hl2,hlb,hlx,hls⟩:=HJr.out.get (i:=k) hkl
  simp only [Value.slice.injEq,true_and] at el
  obtain ⟨rfl,rfl⟩:=el
  have HCe:=Hid.intro (HCel.out k hkc)
  generalize LL.getD k []=ln at hls hjn htot HWd
  obtain ⟨au,cu,rfl,hlnl⟩:=At.form hls
  unfold maxLen at hl2 hlnl
  generalize (gOf t).cells.getD k dG=xc at hx hgo hjn HWd HCe
  obtain ⟨x0,x1,x2,x3,x4⟩:=hx
  have hgb:=(Array.getElem?_eq_some_iff.1 HGr.out.2.2).1
  have htb:=(Array.getElem?_eq_some_iff.1 HGr.out.1.2.2).1
  have hne:=bw_some wr
  obtain ⟨m7,m8,m9,m10,m11⟩:=cellsL5 HGr.out.1.2.2 htb
  have m0:=bw_cell (a:=⟨gb,2,none⟩) hgb y2
  have m1:=bw_cell hbl x0
  have m2:=bw_cell hbl x1
  have m3:=bw_cell hbl x2
  have m4:=bw_cell hbl x3
  have m5:=bw_cell hbl x4
  have m6:=bw_cell (a:=⟨bl,offl+k,none⟩) hlb hlx
  have KJ:=Hid.intro (fun (p:BW wr)=>bw_of (implTxtJoin (.slice au ln.length cu) ln htot p.u (hls.kept p.h)))
  have KT:=Hid.intro (fun (p:BW wr)=>bw_of ((lawspwText ac ar cc cr t xc HCe.out p.u (HGr.out.kept p.h).1.2.1.2).mono (fun _ _ ⟨h1,_,h2⟩=>And.intro h1 h2)))
  rw [hjn] at KJ
  generalize textOf t xc=s at KJ KT
  have t1:(k:Int) < ((gOf t).cells.length:Int):=by omega
  have HLn:=Hid.intro hls
  clear hjn htot y0 y1 y2
  go_upto_region 12 with fail
  refine wp_region_quiet_below hmx (by kernel_rfl) ?_
  repeat (go_big_quiet_step (first | (go_at_call 30;refine KJ.out _) | (go_at_call 31;refine KT.out _)))
  refine wpQuiet_nil ?_
  intro W9 hw'
  obtain ⟨⟨Wx,hW9⟩,hw''⟩:=hw'
  subst hw''
  have HB9:=Hid.intro (k_trans HB.out hW9)
  have HG9:=Hid.intro (HGr.out.kept hW9)
  have HI9:=Hid.intro (HIr.out.kept hW9)
  have HL9:=Hid.intro (HLn.out.kept hW9)
  have q0:=(hW9.cell (p:=⟨bl,offl+k,none⟩) hlb).trans hlx
  have hlb9:=Nat.lt_of_lt_of_le hlb hW9.size
  have hbl9:=Nat.lt_of_lt_of_le hbl hW9.size
  have X9:=Hid.intro (And.intro ((hW9.cell hbl).trans x0) (And.intro ((hW9.cell hbl).trans x1) (And.intro ((hW9.cell hbl).trans x2) (And.intro ((hW9.cell hbl).trans x3) ((hW9.cell hbl).trans x4)))))
  clear m0 m1 m2 m3 m4 m5 m6 m7 m8 m9 m10 m11 hne hW9 KJ KT hls HLn HGr HIr HJr hlx x0 x1 x2 x3 x4 hgb htb
  go_wp2_with fail
  go_loopw [9] (fun s W=>∃ j:Nat,s=.int .i64 j∧j≤ln.length∧Hid (Below W9.heap.size W9 W)) (fun s _=>ln.length - (intOf s).toNat)
  case atStart=>exact ⟨0,rfl,Nat.zero_le _,Below.refl _ _⟩
  case round=>as_aux_lemma =>
   obtain ⟨j,rfl,hj,HBj⟩:=hrel
   have p0:=(HBj.out.cell (p:=⟨bl,offl+k,none⟩) hlb9).trans q0
   have hlbj:=Nat.lt_of_lt_of_le hlb9 HBj.out.size
   clear q0
   by_cases hjl:j < ln.length
   case neg =>
    obtain rfl:j=ln.length:=by omega
    have HB5:=Hid.intro (HB9.out.trans (HBj.out.mono HB9.out.size))
    go_wp2
    go_roundw
    case rel=>exact ⟨k+1,by go_num,by omega,HB5⟩
    case measure=>simp [intOf];omega
   obtain ⟨bs,offs,caps,es,hcs1,hcs2,hbs,hy,hys⟩:=At.get (HL9.out.kept HBj.out) hjl
   simp only [Value.slice.injEq,true_and] at es
   obtain ⟨rfl,rfl⟩:=es
   rw [Nat.mul_one] at hy
   have hwd:=HWd.out (ln.getD j dS) (getD_mem' (d:=dS) hjl)
   generalize ln.getD j dS=y at hy hys hwd
   unfold maxLen at hcs2 hys
   have HGj:=Hid.intro (HG9.out.kept HBj.out)
   have HIj:=Hid.intro (HI9.out.kept HBj.out)
   obtain ⟨x0,x1,x2,x3,x4⟩:=X9.out
   have hgb:=(Array.getElem?_eq_some_iff.1 HGj.out.2.2).1
   have htb:=(Array.getElem?_eq_some_iff.1 HGj.out.1.2.2).1
   have hblj:=Nat.lt_of_lt_of_le hbl9 HBj.out.size
   obtain ⟨y0,y1,y2⟩:=HGj.out.at
   have hne:=bw_some wr
   obtain ⟨m7,m8,m9,m10,m11⟩:=cellsL5 HGj.out.1.2.2 htb
   have m0:=bw_cell (a:=⟨gb,2,none⟩) hgb y2
   have m1:=bw_cell hblj ((HBj.out.cell hbl9).trans x0)
   have m2:=bw_cell hblj ((HBj.out.cell hbl9).trans x1)
   have m3:=bw_cell hblj ((HBj.out.cell hbl9).trans x2)
   have m4:=bw_cell hblj ((HBj.out.cell hbl9).trans x3)
   have m5:=bw_cell hblj ((HBj.out.cell hbl9).trans x4)
   have m6:=bw_cell (a:=⟨bl,offl+k,none⟩) hlbj p0
   have m12:=bw_cell (a:=⟨bs,offs+j,none⟩) hbs hy
   have KW:=Hid.intro (fun (p:BW wr)=>bw_of (implWidCell (.slice al WL.length cl) WL hWn t.gap xc hgo p.u (HIj.out.kept p.h)))
   generalize cellV WL t.gap xc=q at KW hwd
   have t2:(j:Int) < (ln.length:Int):=by omega
   clear x0 x1 x2 x3 x4 y0 y1 y2 hy
   go_upto_region 17 with fail
   clear p0
   refine wp_region_quiet_below hmx (by kernel_rfl) ?_
   repeat (go_big_quiet_step (first | (go_at_call 32;refine KW.out _)))
   refine wpQuiet_nil ?_
   intro W11 hw'
   obtain ⟨⟨Wy,hW11⟩,hw''⟩:=hw'
   subst hw''
   have HB11:=Hid.intro (k_trans HBj.out hW11)
   clear m0 m1 m2 m3 m4 m5 m6 m7 m8 m9 m10 m11 m12 hne hW11 KW
   go_wp2
   go_roundw
   case rel=>exact ⟨j+1,by go_num,by omega,HB11⟩
   case measure=>simp [intOf];omega

theorem lawHgtLines (a:Option Addr) (len cap:Nat) (w:World) (h:IsCode w a len cap) :
  Calls Tryz.prog 6 #[.slice a len cap] w fun e w'=>e=.returned (.bool true)∧Below w.heap.size w w':=by
 by_cases hl:len≤1048576
 ·exact lawHL_walk a len cap hl w h
 ·have hl':(1048576:Int) < (len:Int):=by omega
  clear h
  go_enter Tryz.func6,Tryz.ntmps6
  go_wp2
  go_ret
  exact ⟨rfl,Below.refl _ _⟩
end Go.Proofs.YtcbibdhlkdcmiafGreat
