/-
  PROVED HERE: the drawing of grids (l20Grid) gives some grid in new memory, of no more than 33 cells, and turns nothing that was in memory but the reader.
-/
import Derived.Test.YtggmjiddadjilajH19
import Derived.Deep.DeepCutAuto
import Derived.Deep.RegionWith
namespace Go.Proofs.Ytggmjiddadjilaj
open Go.RowKit

theorem gl3 (a b c:Int) (ha:I64 a) (hb:I64 b) (hc:I64 c) (k:Int) (h0:0≤k) (h1:k < 3):∃ v:Int,(#[.int .i64 a,.int .i64 b,.int .i64 c]:Array Value)[k.toNat]?=some (.int .i64 v)∧I64 v:=by
 rcases (by omega:k=0∨k=1∨k=2) with rfl | rfl | rfl
 ·exact ⟨a,rfl,ha⟩
 ·exact ⟨b,rfl,hb⟩
 ·exact ⟨c,rfl,hc⟩
theorem gl2 (a b:Int) (ha:I64 a) (hb:I64 b) (k:Int) (h0:0≤k) (h1:k < 2):∃ v:Int,(#[.int .i64 a,.int .i64 b]:Array Value)[k.toNat]?=some (.int .i64 v)∧I64 v:=by
 rcases (by omega:k=0∨k=1) with rfl | rfl
 ·exact ⟨a,rfl,ha⟩
 ·exact ⟨b,rfl,hb⟩
theorem gl2n (a b:Int) (ha:I64 a) (hb:I64 b) (ha9:a ≠ 99) (hb9:b ≠ 99) (k:Int) (h0:0≤k) (h1:k < 2):∃ v:Int,(#[.int .i64 a,.int .i64 b]:Array Value)[k.toNat]?=some (.int .i64 v)∧I64 v∧v ≠ 99:=by
 rcases (by omega:k=0∨k=1) with rfl | rfl
 ·exact ⟨a,rfl,ha,ha9⟩
 ·exact ⟨b,rfl,hb,hb9⟩
structure GrR6 (w0:World) (r gb zb n0 B:Nat) (R C:Int) (gg:Nat) (vq:Nat) (gs:List GC) (y:GC) (kk:Nat) (L:Nat→Bool) (W:World) (v28 v29 v30 v31 v32 v33 v34 v35 v36 v37:Value):Prop where
 f0:L 0=true→v28=.pointer (some ⟨gb,2,none⟩)
 f1:L 1=true→v29=.slice (some ⟨gg,0,none⟩) n0 vq
 f2:L 2=true→v30=.pointer (some ⟨gb,2,none⟩)
 f3:L 3=true→v31=.slice (some ⟨gg,0,none⟩) n0 vq
 f4:L 4=true→v32=.int .i64 (kk:Int)
 f5:L 5=true→v33=.pointer (some ⟨gg,kk * 5,none⟩)
 f6:L 6=true→v34=.agg #[.int .i64 y.row,.int .i64 y.col,.int .i64 y.rows,.int .i64 y.cols,.int .i64 y.ins]
 f7:L 7=true→L 8=false→PB w0.heap.size W 29 1 (fun arr=>arr=(gcVs y).toArray) v35
 f9:L 9=true→v37=.pointer (some ⟨gb,2,none⟩)
 rd:Rd W r B
 st:L 8=false→GrS w0 r gb zb n0 R C (some ⟨gg,0,none⟩) vq gs W
 ap:L 8=true→L 10=false→GrA w0 r gb zb n0 R C (some ⟨gg,0,none⟩) vq v36 (gs ++ [y]) W
 fin:L 10=true→GrE w0 r gb zb (n0+1) W
theorem hmxG:Try.prog.follows .mixedOrders=true:=by kernel_rfl
structure GrR8 (w0:World) (r gb zb n B:Nat) (R C:Int) (va:Option Addr) (vq:Nat) (gs:List GC) (L:Nat→Bool) (W:World) (v40 v41 v42 v43 v44 v45 v46 v47 v48:Value):Prop where
 f0:L 0=true→v40=.pointer (some ⟨gb,0,none⟩)
 f1:L 1=true→v41=.int .i64 R
 f2:L 2=true→v42=.int .i64 (R+1)
 f3:L 3=true→L 9=false→PB w0.heap.size W 3 3 (fun arr=>arr=#[.int .i64 0,.int .i64 9,.int .i64 (R+1)]) v43
 f4:L 4=true→v44=.pointer (some ⟨r,0,none⟩)
 f5:L 5=true→PI 0 2 v45
 f6:L 6=true→L 9=false→PP w0.heap.size W 3 (fun arr k=>∃ v:Int,arr[k]?=some (.int .i64 v)∧I64 v) v46
 f7:L 7=true→∃ v:Int,v47=.int .i64 v∧I64 v
 f8:L 8=true→v48=.pointer (some ⟨gb,0,none⟩)
 rd:Rd W r (if L 5=true then B+1 else B)
 st:L 9=false→GrS w0 r gb zb n R C va vq gs W
 fin:L 9=true→GrE w0 r gb zb n W
structure GrR10 (w0:World) (r gb zb n B:Nat) (R C:Int) (va:Option Addr) (vq:Nat) (gs:List GC) (L:Nat→Bool) (W:World) (v51 v52 v53 v54 v55 v56 v57 v58 v59:Value):Prop where
 f0:L 0=true→v51=.pointer (some ⟨gb,1,none⟩)
 f1:L 1=true→v52=.int .i64 C
 f2:L 2=true→v53=.int .i64 (C+1)
 f3:L 3=true→L 9=false→PB w0.heap.size W 3 3 (fun arr=>arr=#[.int .i64 0,.int .i64 95,.int .i64 (C+1)]) v54
 f4:L 4=true→v55=.pointer (some ⟨r,0,none⟩)
 f5:L 5=true→PI 0 2 v56
 f6:L 6=true→L 9=false→PP w0.heap.size W 3 (fun arr k=>∃ v:Int,arr[k]?=some (.int .i64 v)∧I64 v) v57
 f7:L 7=true→∃ v:Int,v58=.int .i64 v∧I64 v
 f8:L 8=true→v59=.pointer (some ⟨gb,1,none⟩)
 rd:Rd W r (if L 5=true then B+1 else B)
 st:L 9=false→GrS w0 r gb zb n R C va vq gs W
 fin:L 9=true→GrE w0 r gb zb n W
structure GrR12 (w0:World) (r gb zb n B:Nat) (R C:Int) (va:Option Addr) (vq:Nat) (gs:List GC) (gg kk:Nat) (L:Nat→Bool) (W:World) (v62 v63 v64 v65 v66 v67 v68 v69 v70 v71 v72 v73:Value):Prop where
 f0:L 0=true→v62=.pointer (some ⟨gb,2,none⟩)
 f1:L 1=true→v63=.slice (some ⟨gg,0,none⟩) n vq
 f2:L 2=true→v64=.int .i64 (kk:Int)
 f3:L 3=true→v65=.pointer (some ⟨gb,0,none⟩)
 f4:L 4=true→v66=.int .i64 R
 f5:L 5=true→L 12=false→PB w0.heap.size W 3 2 (fun arr=>arr=#[.int .i64 (-1),.int .i64 R]) v67
 f6:L 6=true→v68=.pointer (some ⟨r,0,none⟩)
 f7:L 7=true→PI 0 1 v69
 f8:L 8=true→L 12=false→PP w0.heap.size W 3 (fun arr k=>∃ v:Int,arr[k]?=some (.int .i64 v)∧I64 v∧v ≠ 99) v70
 f9:L 9=true→∃ v:Int,v71=.int .i64 v∧I64 v∧v ≠ 99
 f10:L 10=true→v72=.pointer (some ⟨gg,kk * 5,none⟩)
 f11:L 11=true→v73=.pointer (some ⟨gg,kk * 5,none⟩)
 rd:Rd W r (if L 7=true then B+1 else B)
 st:L 12=false→GrS w0 r gb zb n R C va vq gs W
 fin:L 12=true→GrE w0 r gb zb n W
structure GrR14 (w0:World) (r gb zb n B:Nat) (R C:Int) (va:Option Addr) (vq:Nat) (gs:List GC) (gg kk:Nat) (L:Nat→Bool) (W:World) (v76 v77 v78 v79 v80 v81 v82 v83 v84 v85 v86 v87 v88:Value):Prop where
 f0:L 0=true→v76=.pointer (some ⟨gb,2,none⟩)
 f1:L 1=true→v77=.slice (some ⟨gg,0,none⟩) n vq
 f2:L 2=true→v78=.int .i64 (kk:Int)
 f3:L 3=true→v79=.pointer (some ⟨gb,1,none⟩)
 f4:L 4=true→v80=.int .i64 C
 f5:L 5=true→v81=.int .i64 (C+1)
 f6:L 6=true→L 13=false→PB w0.heap.size W 3 3 (fun arr=>arr=#[.int .i64 0,.int .i64 (C+1),.int .i64 2]) v82
 f7:L 7=true→v83=.pointer (some ⟨r,0,none⟩)
 f8:L 8=true→PI 0 2 v84
 f9:L 9=true→L 13=false→PP w0.heap.size W 3 (fun arr k=>∃ v:Int,arr[k]?=some (.int .i64 v)∧I64 v) v85
 f10:L 10=true→∃ v:Int,v86=.int .i64 v∧I64 v
 f11:L 11=true→v87=.pointer (some ⟨gg,kk * 5,none⟩)
 f12:L 12=true→v88=.pointer (some ⟨gg,kk * 5+3,none⟩)
 rd:Rd W r (if L 8=true then B+1 else B)
 st:L 13=false→GrS w0 r gb zb n R C va vq gs W
 fin:L 13=true→GrE w0 r gb zb n W
structure GrR16 (w0:World) (r gb zb n B:Nat) (R C:Int) (va:Option Addr) (vq:Nat) (gs:List GC) (gg kk:Nat) (L:Nat→Bool) (W:World) (v91 v92 v93 v94 v95 v96 v97 v98 v99 v100:Value):Prop where
 f0:L 0=true→v91=.pointer (some ⟨gb,2,none⟩)
 f1:L 1=true→v92=.slice (some ⟨gg,0,none⟩) n vq
 f2:L 2=true→v93=.int .i64 (kk:Int)
 f3:L 3=true→L 10=false→PB w0.heap.size W 3 2 (fun arr=>arr=#[.int .i64 (-1),.int .i64 5]) v94
 f4:L 4=true→v95=.pointer (some ⟨r,0,none⟩)
 f5:L 5=true→PI 0 1 v96
 f6:L 6=true→L 10=false→PP w0.heap.size W 3 (fun arr k=>∃ v:Int,arr[k]?=some (.int .i64 v)∧I64 v) v97
 f7:L 7=true→∃ v:Int,v98=.int .i64 v∧I64 v
 f8:L 8=true→v99=.pointer (some ⟨gg,kk * 5,none⟩)
 f9:L 9=true→v100=.pointer (some ⟨gg,kk * 5+4,none⟩)
 rd:Rd W r (if L 5=true then B+1 else B)
 st:L 10=false→GrS w0 r gb zb n R C va vq gs W
 fin:L 10=true→GrE w0 r gb zb n W
structure GrR17 (w0:World) (r gb zb n B:Nat) (R C:Int) (va:Option Addr) (vq:Nat) (gs:List GC) (gg kk:Nat) (L:Nat→Bool) (W:World) (v101 v102 v103 v104 v105 v106 v107 v108 v109 v110:Value):Prop where
 f0:L 0=true→v101=.pointer (some ⟨gb,2,none⟩)
 f1:L 1=true→v102=.slice (some ⟨gg,0,none⟩) n vq
 f2:L 2=true→v103=.int .i64 (kk:Int)
 f3:L 3=true→L 10=false→PB w0.heap.size W 3 2 (fun arr=>arr=#[.int .i64 1,.int .i64 9223372036854775807]) v104
 f4:L 4=true→v105=.pointer (some ⟨r,0,none⟩)
 f5:L 5=true→PI 0 1 v106
 f6:L 6=true→L 10=false→PP w0.heap.size W 3 (fun arr k=>∃ v:Int,arr[k]?=some (.int .i64 v)∧I64 v) v107
 f7:L 7=true→∃ v:Int,v108=.int .i64 v∧I64 v
 f8:L 8=true→v109=.pointer (some ⟨gg,kk * 5,none⟩)
 f9:L 9=true→v110=.pointer (some ⟨gg,kk * 5+2,none⟩)
 rd:Rd W r (if L 5=true then B+1 else B)
 st:L 10=false→GrS w0 r gb zb n R C va vq gs W
 fin:L 10=true→GrE w0 r gb zb n W
set_option maxRecDepth 100000 in
set_option maxHeartbeats 4000000 in
theorem l20Grid_any (r B:Nat) (n:Int) (hn:1≤n) (w:World) (h:Rd w r B) (hB:B≤100) :
  Calls Try.prog 33 #[.pointer (some ⟨r,0,none⟩),.int .i64 n] w fun e w'=>GridPost r B w e w':=by
 have hlt:=h.lt
 have HR:Hid (Rd w r B):=h
 clear h
 go_enter Try.func33,Try.ntmps33
 go_wp2_with fail
 refine (l20Table_any r B _ (HR.out.alloc _) (by omega)).mono ?_
 rintro e w1 ⟨vc,vr,t,ur,rfl,htr,htk,hS,hO1,hW1,hR1,hb1⟩
 obtain ⟨hu,hcl,hhd,hft,hgp⟩:=drawn_of htk htr
 have hD:Drawn t:=⟨by rw [htr];simp;omega,by omega,by omega,by omega,by omega,by rw [htr];exact cells_of hS,by rw [htr];exact few_of hS⟩
 have hC1:=hO1.at
 have hQ1:=hW1.at (fun p hp x hx=>((hS p hp).2 x hx).1)
 rw [← htr] at hQ1
 obtain ⟨ac,cc,rfl,_⟩:=row_form hO1
 obtain ⟨ar,cr,rfl,_⟩:=row_form hW1.own
 have hln:ur.length=t.rows.length:=by rw [htr];simp
 rw [hln] at hQ1 ⊢
 have HD:=Hid.intro hD
 have HC:=Hid.intro hC1
 have HQ:=Hid.intro hQ1
 have HB1:=Hid.intro (((Bk.refl r w).alloc (.cells #[.int .i64 0,.int .i64 0,.slice none 0 0] 25)).trans hb1)
 have HZ1:=Hid.intro ((hb1.block w.heap.size (by simp) (by omega)).trans (newestB _ _))
 have HR1:=Hid.intro hR1
 clear hu hcl hhd hft hgp hD hC1 hQ1 hO1 hW1 hR1 hb1 htr htk hS hln HR
 go_wp2_with fail
 refine (specGrdOf ac ar cc cr t HD.out w1 HC.out HQ.out).mono ?_
 rintro e w2 ⟨vg,rfl,hO2,hb2⟩
 obtain ⟨va,vq,rfl⟩:=own_slice hO2
 have hz1:w.heap.size < w1.heap.size:=(Array.getElem?_eq_some_iff.1 HZ1.out).1
 have hz2:w1.heap.size≤w2.heap.size:=hb2.size
 have HS:=Hid.intro (GrS.mk (w0:=w) (r:=r) (gb:=w2.heap.size) (zb:=w.heap.size) (R:=(gOf t).rows) (C:=(gOf t).cols) hlt (by omega) (Nat.le_refl _) (by omega) rfl ((HB1.out.trans (Bk.of_below hb2)).alloc _) (newestB w2 _) ((Below.heap_alloc _ _ _ (by omega)).trans ((hb2.block _ hz1).trans HZ1.out)) (row_base (row_bk hO2 (bk_alloc r w2 _) (by omega)) (by omega)) (gOf_gok9 HD.out))
 have HRd:=Hid.intro ((HR1.out.kept hb2).alloc (.cells #[.int .i64 (gOf t).rows,.int .i64 (gOf t).cols,.slice va (gOf t).cells.length vq] 25))
 obtain ⟨W2,hW2⟩:∃ W2,w2.alloc (.cells #[.int .i64 (gOf t).rows,.int .i64 (gOf t).cols,.slice va (gOf t).cells.length vq] 25)=W2:=⟨_,rfl⟩
 have HI:=grid_i64 HD.out
 have hn41:=grid_few HD.out
 rw [hW2] at HS HRd
 go_upto_region 2 with fail
 clear hW2 hO2 hb2 HB1 HZ1 HR1 HD HC HQ
 generalize (gOf t).rows=R at *
 generalize (gOf t).cols=C at *
 obtain ⟨gs,hgs⟩:∃ gs,(gOf t).cells=gs:=⟨_,rfl⟩
 rw [hgs] at HS hn41 ⊢
 obtain ⟨n0,hn0⟩:∃ n0,gs.length=n0:=⟨_,rfl⟩
 rw [hn0] at HS hn41 ⊢
 clear hgs hn0
 generalize (Value.agg #[Value.slice ac t.cols.length cc,_,_,_,_])=xt
 generalize (Value.agg #[Value.int .i64 R,_,_])=xg
 generalize w2.heap.size=gb at *
 have hI:I64 R∧I64 C:=⟨HI.1,HI.2.1⟩
 have hwR:IntKind.i64.wrap (R+1)=R+1∧I64 (R+1):=⟨by unfold IntKind.wrap;simp [IntKind.bits,IntKind.signed];omega,by unfold I64;omega⟩
 have hwC:IntKind.i64.wrap (C+1)=C+1∧I64 (C+1):=⟨by unfold IntKind.wrap;simp [IntKind.bits,IntKind.signed];omega,by unfold I64;omega⟩
 have hR9:R ≠ 99:=by omega
 clear HI hz1
 have hgr:=HS.out.hg
 go_wp2_with fail
 refine (pick_any _ _ _ _ HRd.out (by omega)).mono ?_
 rintro e w3 ⟨k2,rfl,hk2,hR3,hb3⟩
 obtain ⟨k20,k21⟩:=hk2 hn
 have HS:=Hid.intro (HS.out.on hb3)
 have HRd:=Hid.intro hR3
 clear hk2 hR3 hb3
 by_cases h2:0 < k2
 ·skip
  have HP:=Hid.intro (HS.out.post (B:=B) HRd.out (by omega) (by omega) hI.1 hI.2)
  obtain ⟨⟨q0,q1,q2⟩,_⟩:=threeZ HS.out.gbx
  obtain ⟨⟨z0,z1,z2⟩,y0,y1,y2⟩:=threeZ HS.out.zbx
  go_wp2
  exact bodyPost_ret (v:=.agg #[.int .i64 R,.int .i64 C,.slice va _ vq]) (by simp [results,Try.results33,go_sem,z0,z1,z2]) rfl HP.out
 have hg2:w3.cell? ⟨gb,2,none⟩=some (.slice va n0 vq):=cellB HS.out.gbx
 by_cases h0:n0=0
 ·subst h0
  have HP:=Hid.intro (HS.out.post (B:=B) HRd.out (by omega) (by omega) hI.1 hI.2)
  obtain ⟨⟨q0,q1,q2⟩,_⟩:=threeZ HS.out.gbx
  obtain ⟨⟨z0,z1,z2⟩,y0,y1,y2⟩:=threeZ HS.out.zbx
  go_wp2
  exact bodyPost_ret (v:=.agg #[.int .i64 R,.int .i64 C,.slice va _ vq]) (by simp [results,Try.results33,go_sem,z0,z1,z2]) rfl HP.out
 have h0i:((n0:Int) == 0)=false:=beq_eq_false_iff_ne.2 (by omega)
 go_wp2_with fail
 refine (pick_any _ _ _ _ HRd.out (by omega)).mono ?_
 rintro e w4 ⟨kz,rfl,hk4,hR4,hb4⟩
 obtain ⟨kz0,kz1⟩:=hk4 (by omega)
 obtain ⟨kk,rfl⟩:=Int.eq_ofNat_of_zero_le kz0
 have hkn:kk < n0:=by omega
 have HS:=Hid.intro (HS.out.on hb4)
 have HRd:=Hid.intro hR4
 clear hk4 hR4 hb4 kz0 kz1 hg2 h0i
 go_wp2_with fail
 refine (pick_any _ _ _ _ HRd.out (by omega)).mono ?_
 rintro e w5 ⟨k4,rfl,hk5,hR5,hb5⟩
 obtain ⟨k40,k41⟩:=hk5 (by omega)
 have HS:=Hid.intro (HS.out.on hb5)
 have HRd:=Hid.intro hR5
 clear hk5 hR5 hb5
 obtain ⟨B0,hB0⟩:∃ B0,B+2000+1+1+1=B0:=⟨_,rfl⟩
 rw [hB0] at HRd
 have hB1:B0≤B+2003:=by omega
 clear hB0
 obtain ⟨gg,cur,rfl,hgg,hg1,hg2,hq1,hq2,-⟩:=HS.out.blk (by omega)
 have hX:GOk9 (gs.getD kk dG):=HS.out.gok _ (getD_mem' (by rw [HS.out.len];exact hkn))
 have hmx:=hmxG
 rcases (by omega:k4=0∨k4=1∨k4=2∨k4=3∨k4=4∨k4=5) with rfl | rfl | rfl | rfl | rfl | rfl
 ·as_aux_lemma =>
   go_upto_region 8 with fail
   refine wp_region_inv2 (fun L act W=>∃ v40 v41 v42 v43 v44 v45 v46 v47 v48:Value,act=⟨#[.pointer (some ⟨r,0,none⟩),.int .i64 n,undef,undef,.pointer (some ⟨w.heap.size,0,none⟩),.pointer (some ⟨gb,0,none⟩),.int .i64 (kk:Int),.pointer (some ⟨r,0,none⟩),xt,xg,.pointer (some ⟨r,0,none⟩),.int .i64 n,.int .i64 k2,.bool (decide (0 < k2)),.bool (decide (0 < k2)),.pointer (some ⟨gb,2,none⟩),.slice (some ⟨gg,0,none⟩) n0 vq,.int .i64 (n0:Int),.bool false,.bool (decide (0 < k2)),undef,.pointer (some ⟨r,0,none⟩),.pointer (some ⟨gb,2,none⟩),.slice (some ⟨gg,0,none⟩) n0 vq,.int .i64 (n0:Int),.int .i64 (kk:Int),.pointer (some ⟨r,0,none⟩),.int .i64 0,undef,undef,undef,undef,undef,undef,undef,undef,undef,undef,.bool true,.bool true,v40,v41,v42,v43,v44,v45,v46,v47,v48,undef,undef,undef,undef,undef,undef,undef,undef,undef,undef,undef,undef,undef,undef,undef,undef,undef,undef,undef,undef,undef,undef,undef,undef,undef,undef,undef,undef,undef,undef,undef,undef,undef,undef,undef,undef,undef,undef,undef,undef,undef,undef,undef,undef,undef,undef,undef,undef,undef,undef,undef,undef,undef,undef,undef,undef,undef,undef,undef,undef,undef,undef,undef],[]⟩∧GrR8 w r gb w.heap.size n0 B0 R C (some ⟨gg,0,none⟩) vq gs L W v40 v41 v42 v43 v44 v45 v46 v47 v48) hmx (by kernel_rfl) ?hs ?hd ?h0
   case h0=>exact ⟨_,_,_,_,_,_,_,_,_,rfl,⟨(fun h=>by cases h),(fun h=>by cases h),(fun h=>by cases h),(fun h _=>by cases h),(fun h=>by cases h),(fun h=>by cases h),(fun h _=>by cases h),(fun h=>by cases h),(fun h=>by cases h),HRd.out.drew,(fun _=>HS.out.on (Bk.refl r _).drew),(fun h=>by cases h)⟩⟩
   case hs =>
    intro L act W i o hJ hcl ho hLi haft K hK
    obtain ⟨v40,v41,v42,v43,v44,v45,v46,v47,v48,ha,J⟩:=hJ
    subst ha
    have hi':i < 10:=by
     have:=(Array.getElem?_eq_some_iff.1 ho).1
     simpa using this
    rcases (by omega:i=0∨i=1∨i=2∨i=3∨i=4∨i=5∨i=6∨i=7∨i=8∨i=9) with rfl | rfl | rfl | rfl | rfl | rfl | rfl | rfl | rfl | rfl
    all_goals
     simp only [List.getElem?_toArray,List.getElem?_cons_zero,List.getElem?_cons_succ,Option.some.injEq] at ho
     subst ho
     clear hi'
    ·skip
     have hN:L 9=false:=(hcl 9 7 (by kernel_rfl) (hcl 7 6 (by kernel_rfl) (hcl 6 3 (by kernel_rfl) (hcl 3 2 (by kernel_rfl) (hcl 2 1 (by kernel_rfl) (hcl 1 0 (by kernel_rfl) hLi))))))
     have hS:=J.st hN
     go_simp
     exact hK _ _ ⟨_,_,_,_,_,_,_,_,_,rfl,⟨(fun _=>rfl),(fun h=>J.f1 (un h)),(fun h=>J.f2 (un h)),(fun h _=>J.f3 (un h) hN),(fun h=>J.f4 (un h)),(fun h=>J.f5 (un h)),(fun h _=>J.f6 (un h) hN),(fun h=>J.f7 (un h)),(fun h=>J.f8 (un h)),(by rw [upd_ne rfl];exact J.rd),(fun _=>hS),(fun h=>absurd (hN.symm.trans (un h)) (by simp))⟩⟩
    ·skip
     have hN:L 9=false:=(hcl 9 7 (by kernel_rfl) (hcl 7 6 (by kernel_rfl) (hcl 6 3 (by kernel_rfl) (hcl 3 2 (by kernel_rfl) (hcl 2 1 (by kernel_rfl) hLi)))))
     have hS:=J.st hN
     obtain rfl:=J.f0 (haft ⟨0,.data⟩ (by simp) rfl)
     have hc:W.cell? ⟨gb,0,none⟩=some (.int .i64 R):=cellB hS.gbx
     go_simp
     exact hK _ _ ⟨_,_,_,_,_,_,_,_,_,rfl,⟨(fun h=>J.f0 (un h)),(fun _=>rfl),(fun h=>J.f2 (un h)),(fun h _=>J.f3 (un h) hN),(fun h=>J.f4 (un h)),(fun h=>J.f5 (un h)),(fun h _=>J.f6 (un h) hN),(fun h=>J.f7 (un h)),(fun h=>J.f8 (un h)),(by rw [upd_ne rfl];exact J.rd),(fun _=>hS),(fun h=>absurd (hN.symm.trans (un h)) (by simp))⟩⟩
    ·skip
     have hN:L 9=false:=(hcl 9 7 (by kernel_rfl) (hcl 7 6 (by kernel_rfl) (hcl 6 3 (by kernel_rfl) (hcl 3 2 (by kernel_rfl) hLi))))
     have hS:=J.st hN
     obtain rfl:=J.f1 (haft ⟨1,.data⟩ (by simp) rfl)
     go_simp
     exact hK _ _ ⟨_,_,_,_,_,_,_,_,_,rfl,⟨(fun h=>J.f0 (un h)),(fun h=>J.f1 (un h)),(fun _=>rfl),(fun h _=>J.f3 (un h) hN),(fun h=>J.f4 (un h)),(fun h=>J.f5 (un h)),(fun h _=>J.f6 (un h) hN),(fun h=>J.f7 (un h)),(fun h=>J.f8 (un h)),(by rw [upd_ne rfl];exact J.rd),(fun _=>hS),(fun h=>absurd (hN.symm.trans (un h)) (by simp))⟩⟩
    ·skip
     have hN:L 9=false:=(hcl 9 7 (by kernel_rfl) (hcl 7 6 (by kernel_rfl) (hcl 6 3 (by kernel_rfl) hLi)))
     have hS:=J.st hN
     obtain rfl:=J.f2 (haft ⟨2,.data⟩ (by simp) rfl)
     have hsz:=hS.bk.size
     go_simp
     exact hK _ _ ⟨_,_,_,_,_,_,_,_,_,rfl,⟨(fun h=>J.f0 (un h)),(fun h=>J.f1 (un h)),(fun h=>J.f2 (un h)),(fun _ _=>⟨W.heap.size,_,rfl,Hp.new hsz _,rfl⟩),(fun h=>J.f4 (un h)),(fun h=>J.f5 (un h)),(fun h _=>(J.f6 (un h) hN).bk hS.lt (bk_alloc r W _)),(fun h=>J.f7 (un h)),(fun h=>J.f8 (un h)),(by rw [upd_ne rfl];exact J.rd.alloc _),(fun _=>hS.on (bk_alloc r W _)),(fun h=>absurd (hN.symm.trans (un h)) (by simp))⟩⟩
    ·skip
     have hN:L 9=false:=(hcl 9 7 (by kernel_rfl) (hcl 7 6 (by kernel_rfl) (hcl 6 5 (by kernel_rfl) (hcl 5 4 (by kernel_rfl) hLi))))
     have hS:=J.st hN
     go_simp
     exact hK _ _ ⟨_,_,_,_,_,_,_,_,_,rfl,⟨(fun h=>J.f0 (un h)),(fun h=>J.f1 (un h)),(fun h=>J.f2 (un h)),(fun h _=>J.f3 (un h) hN),(fun _=>rfl),(fun h=>J.f5 (un h)),(fun h _=>J.f6 (un h) hN),(fun h=>J.f7 (un h)),(fun h=>J.f8 (un h)),(by rw [upd_ne rfl];exact J.rd),(fun _=>hS),(fun h=>absurd (hN.symm.trans (un h)) (by simp))⟩⟩
    ·skip
     have hN:L 9=false:=(hcl 9 7 (by kernel_rfl) (hcl 7 6 (by kernel_rfl) (hcl 6 5 (by kernel_rfl) hLi)))
     have hS:=J.st hN
     have hR0:Rd W r B0:=by have h:=J.rd;rw [if_neg (by rw [hLi];simp)] at h;exact h
     obtain rfl:=J.f4 (haft ⟨4,.data⟩ (by simp) rfl)
     go_simp
     go_wp2_with (go_at_call 34;refine (pick_any r _ _ _ hR0 (by omega)).mono ?_;rintro e W2 ⟨k,rfl,hk,hR,hb⟩)
     have hk2:=hk (by omega)
     exact ⟨_,_,_,_,_,_,_,_,_,rfl,⟨(fun h=>J.f0 (un h)),(fun h=>J.f1 (un h)),(fun h=>J.f2 (un h)),(fun h _=>(J.f3 (un h) hN).bk hS.lt hb),(fun h=>J.f4 (un h)),(fun _=>⟨k,rfl,by omega,by omega⟩),(fun h _=>(J.f6 (un h) hN).bk hS.lt hb),(fun h=>J.f7 (un h)),(fun h=>J.f8 (un h)),(by rw [if_pos upd_self];exact hR),(fun _=>hS.on hb),(fun h=>absurd (hN.symm.trans (un h)) (by simp))⟩⟩
    ·skip
     have hN:L 9=false:=(hcl 9 7 (by kernel_rfl) (hcl 7 6 (by kernel_rfl) hLi))
     have hS:=J.st hN
     obtain ⟨g1,arr,rfl,hg,rfl⟩:=J.f3 (haft ⟨3,.data⟩ (by simp) rfl) hN
     obtain ⟨k,rfl,k0,k1⟩:=J.f5 (haft ⟨5,.data⟩ (by simp) rfl)
     have k2:k < 3:=by omega
     obtain ⟨v,hv⟩:=gl3 0 9 (R+1) (by unfold I64;omega) (by unfold I64;omega) hwR.2 k k0 k2
     go_simp
     exact hK _ _ ⟨_,_,_,_,_,_,_,_,_,rfl,⟨(fun h=>J.f0 (un h)),(fun h=>J.f1 (un h)),(fun h=>J.f2 (un h)),(fun h _=>J.f3 (un h) hN),(fun h=>J.f4 (un h)),(fun h=>J.f5 (un h)),(fun _ _=>⟨g1,k.toNat,_,rfl,hg,v,hv⟩),(fun h=>J.f7 (un h)),(fun h=>J.f8 (un h)),(by rw [upd_ne rfl];exact J.rd),(fun _=>hS),(fun h=>absurd (hN.symm.trans (un h)) (by simp))⟩⟩
    ·skip
     have hN:L 9=false:=(hcl 9 7 (by kernel_rfl) hLi)
     have hS:=J.st hN
     obtain ⟨g1,k,arr,rfl,hg,v,hv,v0⟩:=J.f6 (haft ⟨6,.data⟩ (by simp) rfl) hN
     have hc:W.cell? ⟨g1,k,none⟩=some (.int .i64 v):=(cellB hg.2).trans hv
     go_simp
     exact hK _ _ ⟨_,_,_,_,_,_,_,_,_,rfl,⟨(fun h=>J.f0 (un h)),(fun h=>J.f1 (un h)),(fun h=>J.f2 (un h)),(fun h _=>J.f3 (un h) hN),(fun h=>J.f4 (un h)),(fun h=>J.f5 (un h)),(fun h _=>J.f6 (un h) hN),(fun _=>⟨v,rfl,v0⟩),(fun h=>J.f8 (un h)),(by rw [upd_ne rfl];exact J.rd),(fun _=>hS),(fun h=>absurd (hN.symm.trans (un h)) (by simp))⟩⟩
    ·skip
     have hN:L 9=false:=(hcl 9 8 (by kernel_rfl) hLi)
     have hS:=J.st hN
     go_simp
     exact hK _ _ ⟨_,_,_,_,_,_,_,_,_,rfl,⟨(fun h=>J.f0 (un h)),(fun h=>J.f1 (un h)),(fun h=>J.f2 (un h)),(fun h _=>J.f3 (un h) hN),(fun h=>J.f4 (un h)),(fun h=>J.f5 (un h)),(fun h _=>J.f6 (un h) hN),(fun h=>J.f7 (un h)),(fun _=>rfl),(by rw [upd_ne rfl];exact J.rd),(fun _=>hS),(fun h=>absurd (hN.symm.trans (un h)) (by simp))⟩⟩
    ·skip
     have hN:L 9=false:=hLi
     have hS:=J.st hN
     obtain ⟨v,rfl,v0⟩:=J.f7 (haft ⟨7,.data⟩ (by simp) rfl)
     obtain rfl:=J.f8 (haft ⟨8,.data⟩ (by simp) rfl)
     have hc:W.cell? ⟨gb,0,none⟩=some (.int .i64 R):=cellB hS.gbx
     have hf:W.frozen? ⟨gb,0,none⟩=false:=freeB hS.gbx
     have hgr:=hS.hg
     go_simp
     exact hK _ _ ⟨_,_,_,_,_,_,_,_,_,rfl,⟨(fun h=>J.f0 (un h)),(fun h=>J.f1 (un h)),(fun h=>J.f2 (un h)),(fun _ h=>absurd (h.symm.trans upd_self) (by simp)),(fun h=>J.f4 (un h)),(fun h=>J.f5 (un h)),(fun _ h=>absurd (h.symm.trans upd_self) (by simp)),(fun h=>J.f7 (un h)),(fun h=>J.f8 (un h)),(by rw [upd_ne rfl];exact J.rd.set (p:=⟨gb,_,none⟩) (by show r < gb;have:=hS.lt;have:=hS.hg;omega) _),(fun h=>absurd (h.symm.trans upd_self) (by simp)),(fun _=>⟨_,_,_,vq,gs,hS.setR v,v0,hI.2⟩)⟩⟩
   case hd =>
    intro L act W hJ hall
    obtain ⟨v40,v41,v42,v43,v44,v45,v46,v47,v48,ha,J⟩:=hJ
    subst ha
    have HE:=Hid.intro (J.fin (hall 9 (by simp)))
    have HRd2:=Hid.intro (J.rd.mono (B':=B0+1) (by split <;> omega))
    clear J
    obtain ⟨R2,C2,va2,vq2,gs2,hS2,hI2⟩:=HE.out
    have HE2:=Hid.intro hS2
    clear hS2 HE HS HRd
    have HP:=Hid.intro (HE2.out.post (B:=B) HRd2.out (by omega) (by omega) hI2.1 hI2.2)
    obtain ⟨⟨q0,q1,q2⟩,_⟩:=threeZ HE2.out.gbx
    obtain ⟨⟨z0,z1,z2⟩,y0,y1,y2⟩:=threeZ HE2.out.zbx
    go_wp2
    exact bodyPost_ret (v:=.agg #[.int .i64 R2,.int .i64 C2,.slice va2 _ vq2]) (by simp [results,Try.results33,go_sem,z0,z1,z2]) rfl HP.out
 ·as_aux_lemma =>
   go_upto_region 10 with fail
   refine wp_region_inv2 (fun L act W=>∃ v51 v52 v53 v54 v55 v56 v57 v58 v59:Value,act=⟨#[.pointer (some ⟨r,0,none⟩),.int .i64 n,undef,undef,.pointer (some ⟨w.heap.size,0,none⟩),.pointer (some ⟨gb,0,none⟩),.int .i64 (kk:Int),.pointer (some ⟨r,0,none⟩),xt,xg,.pointer (some ⟨r,0,none⟩),.int .i64 n,.int .i64 k2,.bool (decide (0 < k2)),.bool (decide (0 < k2)),.pointer (some ⟨gb,2,none⟩),.slice (some ⟨gg,0,none⟩) n0 vq,.int .i64 (n0:Int),.bool false,.bool (decide (0 < k2)),undef,.pointer (some ⟨r,0,none⟩),.pointer (some ⟨gb,2,none⟩),.slice (some ⟨gg,0,none⟩) n0 vq,.int .i64 (n0:Int),.int .i64 (kk:Int),.pointer (some ⟨r,0,none⟩),.int .i64 1,undef,undef,undef,undef,undef,undef,undef,undef,undef,undef,.bool false,.bool false,undef,undef,undef,undef,undef,undef,undef,undef,undef,.bool true,.bool true,v51,v52,v53,v54,v55,v56,v57,v58,v59,undef,undef,undef,undef,undef,undef,undef,undef,undef,undef,undef,undef,undef,undef,undef,undef,undef,undef,undef,undef,undef,undef,undef,undef,undef,undef,undef,undef,undef,undef,undef,undef,undef,undef,undef,undef,undef,undef,undef,undef,undef,undef,undef,undef,undef,undef,undef,undef,undef,undef,undef,undef],[]⟩∧GrR10 w r gb w.heap.size n0 B0 R C (some ⟨gg,0,none⟩) vq gs L W v51 v52 v53 v54 v55 v56 v57 v58 v59) hmx (by kernel_rfl) ?hs ?hd ?h0
   case h0=>exact ⟨_,_,_,_,_,_,_,_,_,rfl,⟨(fun h=>by cases h),(fun h=>by cases h),(fun h=>by cases h),(fun h _=>by cases h),(fun h=>by cases h),(fun h=>by cases h),(fun h _=>by cases h),(fun h=>by cases h),(fun h=>by cases h),HRd.out.drew,(fun _=>HS.out.on (Bk.refl r _).drew),(fun h=>by cases h)⟩⟩
   case hs =>
    intro L act W i o hJ hcl ho hLi haft K hK
    obtain ⟨v51,v52,v53,v54,v55,v56,v57,v58,v59,ha,J⟩:=hJ
    subst ha
    have hi':i < 10:=by
     have:=(Array.getElem?_eq_some_iff.1 ho).1
     simpa using this
    rcases (by omega:i=0∨i=1∨i=2∨i=3∨i=4∨i=5∨i=6∨i=7∨i=8∨i=9) with rfl | rfl | rfl | rfl | rfl | rfl | rfl | rfl | rfl | rfl
    all_goals
     simp only [List.getElem?_toArray,List.getElem?_cons_zero,List.getElem?_cons_succ,Option.some.injEq] at ho
     subst ho
     clear hi'
    ·skip
     have hN:L 9=false:=(hcl 9 7 (by kernel_rfl) (hcl 7 6 (by kernel_rfl) (hcl 6 3 (by kernel_rfl) (hcl 3 2 (by kernel_rfl) (hcl 2 1 (by kernel_rfl) (hcl 1 0 (by kernel_rfl) hLi))))))
     have hS:=J.st hN
     go_simp
     exact hK _ _ ⟨_,_,_,_,_,_,_,_,_,rfl,⟨(fun _=>rfl),(fun h=>J.f1 (un h)),(fun h=>J.f2 (un h)),(fun h _=>J.f3 (un h) hN),(fun h=>J.f4 (un h)),(fun h=>J.f5 (un h)),(fun h _=>J.f6 (un h) hN),(fun h=>J.f7 (un h)),(fun h=>J.f8 (un h)),(by rw [upd_ne rfl];exact J.rd),(fun _=>hS),(fun h=>absurd (hN.symm.trans (un h)) (by simp))⟩⟩
    ·skip
     have hN:L 9=false:=(hcl 9 7 (by kernel_rfl) (hcl 7 6 (by kernel_rfl) (hcl 6 3 (by kernel_rfl) (hcl 3 2 (by kernel_rfl) (hcl 2 1 (by kernel_rfl) hLi)))))
     have hS:=J.st hN
     obtain rfl:=J.f0 (haft ⟨0,.data⟩ (by simp) rfl)
     have hc:W.cell? ⟨gb,1,none⟩=some (.int .i64 C):=cellB hS.gbx
     go_simp
     exact hK _ _ ⟨_,_,_,_,_,_,_,_,_,rfl,⟨(fun h=>J.f0 (un h)),(fun _=>rfl),(fun h=>J.f2 (un h)),(fun h _=>J.f3 (un h) hN),(fun h=>J.f4 (un h)),(fun h=>J.f5 (un h)),(fun h _=>J.f6 (un h) hN),(fun h=>J.f7 (un h)),(fun h=>J.f8 (un h)),(by rw [upd_ne rfl];exact J.rd),(fun _=>hS),(fun h=>absurd (hN.symm.trans (un h)) (by simp))⟩⟩
    ·skip
     have hN:L 9=false:=(hcl 9 7 (by kernel_rfl) (hcl 7 6 (by kernel_rfl) (hcl 6 3 (by kernel_rfl) (hcl 3 2 (by kernel_rfl) hLi))))
     have hS:=J.st hN
     obtain rfl:=J.f1 (haft ⟨1,.data⟩ (by simp) rfl)
     go_simp
     exact hK _ _ ⟨_,_,_,_,_,_,_,_,_,rfl,⟨(fun h=>J.f0 (un h)),(fun h=>J.f1 (un h)),(fun _=>rfl),(fun h _=>J.f3 (un h) hN),(fun h=>J.f4 (un h)),(fun h=>J.f5 (un h)),(fun h _=>J.f6 (un h) hN),(fun h=>J.f7 (un h)),(fun h=>J.f8 (un h)),(by rw [upd_ne rfl];exact J.rd),(fun _=>hS),(fun h=>absurd (hN.symm.trans (un h)) (by simp))⟩⟩
    ·skip
     have hN:L 9=false:=(hcl 9 7 (by kernel_rfl) (hcl 7 6 (by kernel_rfl) (hcl 6 3 (by kernel_rfl) hLi)))
     have hS:=J.st hN
     obtain rfl:=J.f2 (haft ⟨2,.data⟩ (by simp) rfl)
     have hsz:=hS.bk.size
     go_simp
     exact hK _ _ ⟨_,_,_,_,_,_,_,_,_,rfl,⟨(fun h=>J.f0 (un h)),(fun h=>J.f1 (un h)),(fun h=>J.f2 (un h)),(fun _ _=>⟨W.heap.size,_,rfl,Hp.new hsz _,rfl⟩),(fun h=>J.f4 (un h)),(fun h=>J.f5 (un h)),(fun h _=>(J.f6 (un h) hN).bk hS.lt (bk_alloc r W _)),(fun h=>J.f7 (un h)),(fun h=>J.f8 (un h)),(by rw [upd_ne rfl];exact J.rd.alloc _),(fun _=>hS.on (bk_alloc r W _)),(fun h=>absurd (hN.symm.trans (un h)) (by simp))⟩⟩
    ·skip
     have hN:L 9=false:=(hcl 9 7 (by kernel_rfl) (hcl 7 6 (by kernel_rfl) (hcl 6 5 (by kernel_rfl) (hcl 5 4 (by kernel_rfl) hLi))))
     have hS:=J.st hN
     go_simp
     exact hK _ _ ⟨_,_,_,_,_,_,_,_,_,rfl,⟨(fun h=>J.f0 (un h)),(fun h=>J.f1 (un h)),(fun h=>J.f2 (un h)),(fun h _=>J.f3 (un h) hN),(fun _=>rfl),(fun h=>J.f5 (un h)),(fun h _=>J.f6 (un h) hN),(fun h=>J.f7 (un h)),(fun h=>J.f8 (un h)),(by rw [upd_ne rfl];exact J.rd),(fun _=>hS),(fun h=>absurd (hN.symm.trans (un h)) (by simp))⟩⟩
    ·skip
     have hN:L 9=false:=(hcl 9 7 (by kernel_rfl) (hcl 7 6 (by kernel_rfl) (hcl 6 5 (by kernel_rfl) hLi)))
     have hS:=J.st hN
     have hR0:Rd W r B0:=by have h:=J.rd;rw [if_neg (by rw [hLi];simp)] at h;exact h
     obtain rfl:=J.f4 (haft ⟨4,.data⟩ (by simp) rfl)
     go_simp
     go_wp2_with (go_at_call 34;refine (pick_any r _ _ _ hR0 (by omega)).mono ?_;rintro e W2 ⟨k,rfl,hk,hR,hb⟩)
     have hk2:=hk (by omega)
     exact ⟨_,_,_,_,_,_,_,_,_,rfl,⟨(fun h=>J.f0 (un h)),(fun h=>J.f1 (un h)),(fun h=>J.f2 (un h)),(fun h _=>(J.f3 (un h) hN).bk hS.lt hb),(fun h=>J.f4 (un h)),(fun _=>⟨k,rfl,by omega,by omega⟩),(fun h _=>(J.f6 (un h) hN).bk hS.lt hb),(fun h=>J.f7 (un h)),(fun h=>J.f8 (un h)),(by rw [if_pos upd_self];exact hR),(fun _=>hS.on hb),(fun h=>absurd (hN.symm.trans (un h)) (by simp))⟩⟩
    ·skip
     have hN:L 9=false:=(hcl 9 7 (by kernel_rfl) (hcl 7 6 (by kernel_rfl) hLi))
     have hS:=J.st hN
     obtain ⟨g1,arr,rfl,hg,rfl⟩:=J.f3 (haft ⟨3,.data⟩ (by simp) rfl) hN
     obtain ⟨k,rfl,k0,k1⟩:=J.f5 (haft ⟨5,.data⟩ (by simp) rfl)
     have k2:k < 3:=by omega
     obtain ⟨v,hv⟩:=gl3 0 95 (C+1) (by unfold I64;omega) (by unfold I64;omega) hwC.2 k k0 k2
     go_simp
     exact hK _ _ ⟨_,_,_,_,_,_,_,_,_,rfl,⟨(fun h=>J.f0 (un h)),(fun h=>J.f1 (un h)),(fun h=>J.f2 (un h)),(fun h _=>J.f3 (un h) hN),(fun h=>J.f4 (un h)),(fun h=>J.f5 (un h)),(fun _ _=>⟨g1,k.toNat,_,rfl,hg,v,hv⟩),(fun h=>J.f7 (un h)),(fun h=>J.f8 (un h)),(by rw [upd_ne rfl];exact J.rd),(fun _=>hS),(fun h=>absurd (hN.symm.trans (un h)) (by simp))⟩⟩
    ·skip
     have hN:L 9=false:=(hcl 9 7 (by kernel_rfl) hLi)
     have hS:=J.st hN
     obtain ⟨g1,k,arr,rfl,hg,v,hv,v0⟩:=J.f6 (haft ⟨6,.data⟩ (by simp) rfl) hN
     have hc:W.cell? ⟨g1,k,none⟩=some (.int .i64 v):=(cellB hg.2).trans hv
     go_simp
     exact hK _ _ ⟨_,_,_,_,_,_,_,_,_,rfl,⟨(fun h=>J.f0 (un h)),(fun h=>J.f1 (un h)),(fun h=>J.f2 (un h)),(fun h _=>J.f3 (un h) hN),(fun h=>J.f4 (un h)),(fun h=>J.f5 (un h)),(fun h _=>J.f6 (un h) hN),(fun _=>⟨v,rfl,v0⟩),(fun h=>J.f8 (un h)),(by rw [upd_ne rfl];exact J.rd),(fun _=>hS),(fun h=>absurd (hN.symm.trans (un h)) (by simp))⟩⟩
    ·skip
     have hN:L 9=false:=(hcl 9 8 (by kernel_rfl) hLi)
     have hS:=J.st hN
     go_simp
     exact hK _ _ ⟨_,_,_,_,_,_,_,_,_,rfl,⟨(fun h=>J.f0 (un h)),(fun h=>J.f1 (un h)),(fun h=>J.f2 (un h)),(fun h _=>J.f3 (un h) hN),(fun h=>J.f4 (un h)),(fun h=>J.f5 (un h)),(fun h _=>J.f6 (un h) hN),(fun h=>J.f7 (un h)),(fun _=>rfl),(by rw [upd_ne rfl];exact J.rd),(fun _=>hS),(fun h=>absurd (hN.symm.trans (un h)) (by simp))⟩⟩
    ·skip
     have hN:L 9=false:=hLi
     have hS:=J.st hN
     obtain ⟨v,rfl,v0⟩:=J.f7 (haft ⟨7,.data⟩ (by simp) rfl)
     obtain rfl:=J.f8 (haft ⟨8,.data⟩ (by simp) rfl)
     have hc:W.cell? ⟨gb,1,none⟩=some (.int .i64 C):=cellB hS.gbx
     have hf:W.frozen? ⟨gb,1,none⟩=false:=freeB hS.gbx
     have hgr:=hS.hg
     go_simp
     exact hK _ _ ⟨_,_,_,_,_,_,_,_,_,rfl,⟨(fun h=>J.f0 (un h)),(fun h=>J.f1 (un h)),(fun h=>J.f2 (un h)),(fun _ h=>absurd (h.symm.trans upd_self) (by simp)),(fun h=>J.f4 (un h)),(fun h=>J.f5 (un h)),(fun _ h=>absurd (h.symm.trans upd_self) (by simp)),(fun h=>J.f7 (un h)),(fun h=>J.f8 (un h)),(by rw [upd_ne rfl];exact J.rd.set (p:=⟨gb,_,none⟩) (by show r < gb;have:=hS.lt;have:=hS.hg;omega) _),(fun h=>absurd (h.symm.trans upd_self) (by simp)),(fun _=>⟨_,_,_,vq,gs,hS.setC v,hI.1,v0⟩)⟩⟩
   case hd =>
    intro L act W hJ hall
    obtain ⟨v51,v52,v53,v54,v55,v56,v57,v58,v59,ha,J⟩:=hJ
    subst ha
    have HE:=Hid.intro (J.fin (hall 9 (by simp)))
    have HRd2:=Hid.intro (J.rd.mono (B':=B0+1) (by split <;> omega))
    clear J
    obtain ⟨R2,C2,va2,vq2,gs2,hS2,hI2⟩:=HE.out
    have HE2:=Hid.intro hS2
    clear hS2 HE HS HRd
    have HP:=Hid.intro (HE2.out.post (B:=B) HRd2.out (by omega) (by omega) hI2.1 hI2.2)
    obtain ⟨⟨q0,q1,q2⟩,_⟩:=threeZ HE2.out.gbx
    obtain ⟨⟨z0,z1,z2⟩,y0,y1,y2⟩:=threeZ HE2.out.zbx
    go_wp2
    exact bodyPost_ret (v:=.agg #[.int .i64 R2,.int .i64 C2,.slice va2 _ vq2]) (by simp [results,Try.results33,go_sem,z0,z1,z2]) rfl HP.out
 ·as_aux_lemma =>
   go_upto_region 12 with fail
   refine wp_region_inv2 (fun L act W=>∃ v62 v63 v64 v65 v66 v67 v68 v69 v70 v71 v72 v73:Value,act=⟨#[.pointer (some ⟨r,0,none⟩),.int .i64 n,undef,undef,.pointer (some ⟨w.heap.size,0,none⟩),.pointer (some ⟨gb,0,none⟩),.int .i64 (kk:Int),.pointer (some ⟨r,0,none⟩),xt,xg,.pointer (some ⟨r,0,none⟩),.int .i64 n,.int .i64 k2,.bool (decide (0 < k2)),.bool (decide (0 < k2)),.pointer (some ⟨gb,2,none⟩),.slice (some ⟨gg,0,none⟩) n0 vq,.int .i64 (n0:Int),.bool false,.bool (decide (0 < k2)),undef,.pointer (some ⟨r,0,none⟩),.pointer (some ⟨gb,2,none⟩),.slice (some ⟨gg,0,none⟩) n0 vq,.int .i64 (n0:Int),.int .i64 (kk:Int),.pointer (some ⟨r,0,none⟩),.int .i64 2,undef,undef,undef,undef,undef,undef,undef,undef,undef,undef,.bool false,.bool false,undef,undef,undef,undef,undef,undef,undef,undef,undef,.bool false,.bool false,undef,undef,undef,undef,undef,undef,undef,undef,undef,.bool true,.bool true,v62,v63,v64,v65,v66,v67,v68,v69,v70,v71,v72,v73,undef,undef,undef,undef,undef,undef,undef,undef,undef,undef,undef,undef,undef,undef,undef,undef,undef,undef,undef,undef,undef,undef,undef,undef,undef,undef,undef,undef,undef,undef,undef,undef,undef,undef,undef,undef,undef,undef],[]⟩∧GrR12 w r gb w.heap.size n0 B0 R C (some ⟨gg,0,none⟩) vq gs gg kk L W v62 v63 v64 v65 v66 v67 v68 v69 v70 v71 v72 v73) hmx (by kernel_rfl) ?hs ?hd ?h0
   case h0=>exact ⟨_,_,_,_,_,_,_,_,_,_,_,_,rfl,⟨(fun h=>by cases h),(fun h=>by cases h),(fun h=>by cases h),(fun h=>by cases h),(fun h=>by cases h),(fun h _=>by cases h),(fun h=>by cases h),(fun h=>by cases h),(fun h _=>by cases h),(fun h=>by cases h),(fun h=>by cases h),(fun h=>by cases h),HRd.out.drew,(fun _=>HS.out.on (Bk.refl r _).drew),(fun h=>by cases h)⟩⟩
   case hs =>
    intro L act W i o hJ hcl ho hLi haft K hK
    obtain ⟨v62,v63,v64,v65,v66,v67,v68,v69,v70,v71,v72,v73,ha,J⟩:=hJ
    subst ha
    have hi':i < 13:=by
     have:=(Array.getElem?_eq_some_iff.1 ho).1
     simpa using this
    rcases (by omega:i=0∨i=1∨i=2∨i=3∨i=4∨i=5∨i=6∨i=7∨i=8∨i=9∨i=10∨i=11∨i=12) with rfl | rfl | rfl | rfl | rfl | rfl | rfl | rfl | rfl | rfl | rfl | rfl | rfl
    all_goals
     simp only [List.getElem?_toArray,List.getElem?_cons_zero,List.getElem?_cons_succ,Option.some.injEq] at ho
     subst ho
     clear hi'
    ·skip
     have hN:L 12=false:=(hcl 12 11 (by kernel_rfl) (hcl 11 10 (by kernel_rfl) (hcl 10 1 (by kernel_rfl) (hcl 1 0 (by kernel_rfl) hLi))))
     have hS:=J.st hN
     go_simp
     exact hK _ _ ⟨_,_,_,_,_,_,_,_,_,_,_,_,rfl,⟨(fun _=>rfl),(fun h=>J.f1 (un h)),(fun h=>J.f2 (un h)),(fun h=>J.f3 (un h)),(fun h=>J.f4 (un h)),(fun h _=>J.f5 (un h) hN),(fun h=>J.f6 (un h)),(fun h=>J.f7 (un h)),(fun h _=>J.f8 (un h) hN),(fun h=>J.f9 (un h)),(fun h=>J.f10 (un h)),(fun h=>J.f11 (un h)),(by rw [upd_ne rfl];exact J.rd),(fun _=>hS),(fun h=>absurd (hN.symm.trans (un h)) (by simp))⟩⟩
    ·skip
     have hN:L 12=false:=(hcl 12 11 (by kernel_rfl) (hcl 11 10 (by kernel_rfl) (hcl 10 1 (by kernel_rfl) hLi)))
     have hS:=J.st hN
     obtain rfl:=J.f0 (haft ⟨0,.data⟩ (by simp) rfl)
     have hc:W.cell? ⟨gb,2,none⟩=some (.slice (some ⟨gg,0,none⟩) n0 vq):=cellB hS.gbx
     go_simp
     exact hK _ _ ⟨_,_,_,_,_,_,_,_,_,_,_,_,rfl,⟨(fun h=>J.f0 (un h)),(fun _=>rfl),(fun h=>J.f2 (un h)),(fun h=>J.f3 (un h)),(fun h=>J.f4 (un h)),(fun h _=>J.f5 (un h) hN),(fun h=>J.f6 (un h)),(fun h=>J.f7 (un h)),(fun h _=>J.f8 (un h) hN),(fun h=>J.f9 (un h)),(fun h=>J.f10 (un h)),(fun h=>J.f11 (un h)),(by rw [upd_ne rfl];exact J.rd),(fun _=>hS),(fun h=>absurd (hN.symm.trans (un h)) (by simp))⟩⟩
    ·skip
     have hN:L 12=false:=(hcl 12 11 (by kernel_rfl) (hcl 11 10 (by kernel_rfl) (hcl 10 2 (by kernel_rfl) hLi)))
     have hS:=J.st hN
     go_simp
     exact hK _ _ ⟨_,_,_,_,_,_,_,_,_,_,_,_,rfl,⟨(fun h=>J.f0 (un h)),(fun h=>J.f1 (un h)),(fun _=>rfl),(fun h=>J.f3 (un h)),(fun h=>J.f4 (un h)),(fun h _=>J.f5 (un h) hN),(fun h=>J.f6 (un h)),(fun h=>J.f7 (un h)),(fun h _=>J.f8 (un h) hN),(fun h=>J.f9 (un h)),(fun h=>J.f10 (un h)),(fun h=>J.f11 (un h)),(by rw [upd_ne rfl];exact J.rd),(fun _=>hS),(fun h=>absurd (hN.symm.trans (un h)) (by simp))⟩⟩
    ·skip
     have hN:L 12=false:=(hcl 12 9 (by kernel_rfl) (hcl 9 8 (by kernel_rfl) (hcl 8 5 (by kernel_rfl) (hcl 5 4 (by kernel_rfl) (hcl 4 3 (by kernel_rfl) hLi)))))
     have hS:=J.st hN
     go_simp
     exact hK _ _ ⟨_,_,_,_,_,_,_,_,_,_,_,_,rfl,⟨(fun h=>J.f0 (un h)),(fun h=>J.f1 (un h)),(fun h=>J.f2 (un h)),(fun _=>rfl),(fun h=>J.f4 (un h)),(fun h _=>J.f5 (un h) hN),(fun h=>J.f6 (un h)),(fun h=>J.f7 (un h)),(fun h _=>J.f8 (un h) hN),(fun h=>J.f9 (un h)),(fun h=>J.f10 (un h)),(fun h=>J.f11 (un h)),(by rw [upd_ne rfl];exact J.rd),(fun _=>hS),(fun h=>absurd (hN.symm.trans (un h)) (by simp))⟩⟩
    ·skip
     have hN:L 12=false:=(hcl 12 9 (by kernel_rfl) (hcl 9 8 (by kernel_rfl) (hcl 8 5 (by kernel_rfl) (hcl 5 4 (by kernel_rfl) hLi))))
     have hS:=J.st hN
     obtain rfl:=J.f3 (haft ⟨3,.data⟩ (by simp) rfl)
     have hc:W.cell? ⟨gb,0,none⟩=some (.int .i64 R):=cellB hS.gbx
     go_simp
     exact hK _ _ ⟨_,_,_,_,_,_,_,_,_,_,_,_,rfl,⟨(fun h=>J.f0 (un h)),(fun h=>J.f1 (un h)),(fun h=>J.f2 (un h)),(fun h=>J.f3 (un h)),(fun _=>rfl),(fun h _=>J.f5 (un h) hN),(fun h=>J.f6 (un h)),(fun h=>J.f7 (un h)),(fun h _=>J.f8 (un h) hN),(fun h=>J.f9 (un h)),(fun h=>J.f10 (un h)),(fun h=>J.f11 (un h)),(by rw [upd_ne rfl];exact J.rd),(fun _=>hS),(fun h=>absurd (hN.symm.trans (un h)) (by simp))⟩⟩
    ·skip
     have hN:L 12=false:=(hcl 12 9 (by kernel_rfl) (hcl 9 8 (by kernel_rfl) (hcl 8 5 (by kernel_rfl) hLi)))
     have hS:=J.st hN
     obtain rfl:=J.f4 (haft ⟨4,.data⟩ (by simp) rfl)
     have hsz:=hS.bk.size
     go_simp
     exact hK _ _ ⟨_,_,_,_,_,_,_,_,_,_,_,_,rfl,⟨(fun h=>J.f0 (un h)),(fun h=>J.f1 (un h)),(fun h=>J.f2 (un h)),(fun h=>J.f3 (un h)),(fun h=>J.f4 (un h)),(fun _ _=>⟨W.heap.size,_,rfl,Hp.new hsz _,rfl⟩),(fun h=>J.f6 (un h)),(fun h=>J.f7 (un h)),(fun h _=>(J.f8 (un h) hN).bk hS.lt (bk_alloc r W _)),(fun h=>J.f9 (un h)),(fun h=>J.f10 (un h)),(fun h=>J.f11 (un h)),(by rw [upd_ne rfl];exact J.rd.alloc _),(fun _=>hS.on (bk_alloc r W _)),(fun h=>absurd (hN.symm.trans (un h)) (by simp))⟩⟩
    ·skip
     have hN:L 12=false:=(hcl 12 9 (by kernel_rfl) (hcl 9 8 (by kernel_rfl) (hcl 8 7 (by kernel_rfl) (hcl 7 6 (by kernel_rfl) hLi))))
     have hS:=J.st hN
     go_simp
     exact hK _ _ ⟨_,_,_,_,_,_,_,_,_,_,_,_,rfl,⟨(fun h=>J.f0 (un h)),(fun h=>J.f1 (un h)),(fun h=>J.f2 (un h)),(fun h=>J.f3 (un h)),(fun h=>J.f4 (un h)),(fun h _=>J.f5 (un h) hN),(fun _=>rfl),(fun h=>J.f7 (un h)),(fun h _=>J.f8 (un h) hN),(fun h=>J.f9 (un h)),(fun h=>J.f10 (un h)),(fun h=>J.f11 (un h)),(by rw [upd_ne rfl];exact J.rd),(fun _=>hS),(fun h=>absurd (hN.symm.trans (un h)) (by simp))⟩⟩
    ·skip
     have hN:L 12=false:=(hcl 12 9 (by kernel_rfl) (hcl 9 8 (by kernel_rfl) (hcl 8 7 (by kernel_rfl) hLi)))
     have hS:=J.st hN
     have hR0:Rd W r B0:=by have h:=J.rd;rw [if_neg (by rw [hLi];simp)] at h;exact h
     obtain rfl:=J.f6 (haft ⟨6,.data⟩ (by simp) rfl)
     go_simp
     go_wp2_with (go_at_call 34;refine (pick_any r _ _ _ hR0 (by omega)).mono ?_;rintro e W2 ⟨k,rfl,hk,hR,hb⟩)
     have hk2:=hk (by omega)
     exact ⟨_,_,_,_,_,_,_,_,_,_,_,_,rfl,⟨(fun h=>J.f0 (un h)),(fun h=>J.f1 (un h)),(fun h=>J.f2 (un h)),(fun h=>J.f3 (un h)),(fun h=>J.f4 (un h)),(fun h _=>(J.f5 (un h) hN).bk hS.lt hb),(fun h=>J.f6 (un h)),(fun _=>⟨k,rfl,by omega,by omega⟩),(fun h _=>(J.f8 (un h) hN).bk hS.lt hb),(fun h=>J.f9 (un h)),(fun h=>J.f10 (un h)),(fun h=>J.f11 (un h)),(by rw [if_pos upd_self];exact hR),(fun _=>hS.on hb),(fun h=>absurd (hN.symm.trans (un h)) (by simp))⟩⟩
    ·skip
     have hN:L 12=false:=(hcl 12 9 (by kernel_rfl) (hcl 9 8 (by kernel_rfl) hLi))
     have hS:=J.st hN
     obtain ⟨g1,arr,rfl,hg,rfl⟩:=J.f5 (haft ⟨5,.data⟩ (by simp) rfl) hN
     obtain ⟨k,rfl,k0,k1⟩:=J.f7 (haft ⟨7,.data⟩ (by simp) rfl)
     have k2:k < 2:=by omega
     obtain ⟨v,hv⟩:=gl2n (-1) R (by unfold I64;omega) hI.1 (by omega) hR9 k k0 k2
     go_simp
     exact hK _ _ ⟨_,_,_,_,_,_,_,_,_,_,_,_,rfl,⟨(fun h=>J.f0 (un h)),(fun h=>J.f1 (un h)),(fun h=>J.f2 (un h)),(fun h=>J.f3 (un h)),(fun h=>J.f4 (un h)),(fun h _=>J.f5 (un h) hN),(fun h=>J.f6 (un h)),(fun h=>J.f7 (un h)),(fun _ _=>⟨g1,k.toNat,_,rfl,hg,v,hv⟩),(fun h=>J.f9 (un h)),(fun h=>J.f10 (un h)),(fun h=>J.f11 (un h)),(by rw [upd_ne rfl];exact J.rd),(fun _=>hS),(fun h=>absurd (hN.symm.trans (un h)) (by simp))⟩⟩
    ·skip
     have hN:L 12=false:=(hcl 12 9 (by kernel_rfl) hLi)
     have hS:=J.st hN
     obtain ⟨g1,k,arr,rfl,hg,v,hv,v0⟩:=J.f8 (haft ⟨8,.data⟩ (by simp) rfl) hN
     have hc:W.cell? ⟨g1,k,none⟩=some (.int .i64 v):=(cellB hg.2).trans hv
     go_simp
     exact hK _ _ ⟨_,_,_,_,_,_,_,_,_,_,_,_,rfl,⟨(fun h=>J.f0 (un h)),(fun h=>J.f1 (un h)),(fun h=>J.f2 (un h)),(fun h=>J.f3 (un h)),(fun h=>J.f4 (un h)),(fun h _=>J.f5 (un h) hN),(fun h=>J.f6 (un h)),(fun h=>J.f7 (un h)),(fun h _=>J.f8 (un h) hN),(fun _=>⟨v,rfl,v0⟩),(fun h=>J.f10 (un h)),(fun h=>J.f11 (un h)),(by rw [upd_ne rfl];exact J.rd),(fun _=>hS),(fun h=>absurd (hN.symm.trans (un h)) (by simp))⟩⟩
    ·skip
     have hN:L 12=false:=(hcl 12 11 (by kernel_rfl) (hcl 11 10 (by kernel_rfl) hLi))
     have hS:=J.st hN
     obtain rfl:=J.f1 (haft ⟨1,.data⟩ (by simp) rfl)
     obtain rfl:=J.f2 (haft ⟨2,.data⟩ (by simp) rfl)
     go_simp
     exact hK _ _ ⟨_,_,_,_,_,_,_,_,_,_,_,_,rfl,⟨(fun h=>J.f0 (un h)),(fun h=>J.f1 (un h)),(fun h=>J.f2 (un h)),(fun h=>J.f3 (un h)),(fun h=>J.f4 (un h)),(fun h _=>J.f5 (un h) hN),(fun h=>J.f6 (un h)),(fun h=>J.f7 (un h)),(fun h _=>J.f8 (un h) hN),(fun h=>J.f9 (un h)),(fun _=>rfl),(fun h=>J.f11 (un h)),(by rw [upd_ne rfl];exact J.rd),(fun _=>hS),(fun h=>absurd (hN.symm.trans (un h)) (by simp))⟩⟩
    ·skip
     have hN:L 12=false:=(hcl 12 11 (by kernel_rfl) hLi)
     have hS:=J.st hN
     obtain rfl:=J.f10 (haft ⟨10,.data⟩ (by simp) rfl)
     go_simp
     exact hK _ _ ⟨_,_,_,_,_,_,_,_,_,_,_,_,rfl,⟨(fun h=>J.f0 (un h)),(fun h=>J.f1 (un h)),(fun h=>J.f2 (un h)),(fun h=>J.f3 (un h)),(fun h=>J.f4 (un h)),(fun h _=>J.f5 (un h) hN),(fun h=>J.f6 (un h)),(fun h=>J.f7 (un h)),(fun h _=>J.f8 (un h) hN),(fun h=>J.f9 (un h)),(fun h=>J.f10 (un h)),(fun _=>rfl),(by rw [upd_ne rfl];exact J.rd),(fun _=>hS),(fun h=>absurd (hN.symm.trans (un h)) (by simp))⟩⟩
    ·skip
     have hN:L 12=false:=hLi
     have hS:=J.st hN
     obtain ⟨v,rfl,v0⟩:=J.f9 (haft ⟨9,.data⟩ (by simp) rfl)
     obtain rfl:=J.f11 (haft ⟨11,.data⟩ (by simp) rfl)
     have hc:W.cell? ⟨gg,kk * 5,none⟩=some _:=(hS.cel hkn (j:=0) (by decide)).trans (show _=some _ from rfl)
     have hf:=hS.frz (by omega) (kk * 5)
     go_simp
     exact hK _ _ ⟨_,_,_,_,_,_,_,_,_,_,_,_,rfl,⟨(fun h=>J.f0 (un h)),(fun h=>J.f1 (un h)),(fun h=>J.f2 (un h)),(fun h=>J.f3 (un h)),(fun h=>J.f4 (un h)),(fun _ h=>absurd (h.symm.trans upd_self) (by simp)),(fun h=>J.f6 (un h)),(fun h=>J.f7 (un h)),(fun _ h=>absurd (h.symm.trans upd_self) (by simp)),(fun h=>J.f9 (un h)),(fun h=>J.f10 (un h)),(fun h=>J.f11 (un h)),(by rw [upd_ne rfl];exact J.rd.set (p:=⟨gg,_,none⟩) (by show r < gg;have:=hS.lt;have:=hS.hg;omega) _),(fun h=>absurd (h.symm.trans upd_self) (by simp)),(fun _=>⟨R,C,_,vq,_,hS.setG (j:=0) (v:=.int .i64 v) hkn (by decide) (y:=⟨v,(gs.getD kk dG).col,(gs.getD kk dG).rows,(gs.getD kk dG).cols,(gs.getD kk dG).ins⟩) rfl ⟨⟨v0.1,hX.1.2.1,hX.1.2.2.1,hX.1.2.2.2.1,hX.1.2.2.2.2⟩,v0.2⟩,hI.1,hI.2⟩)⟩⟩
   case hd =>
    intro L act W hJ hall
    obtain ⟨v62,v63,v64,v65,v66,v67,v68,v69,v70,v71,v72,v73,ha,J⟩:=hJ
    subst ha
    have HE:=Hid.intro (J.fin (hall 12 (by simp)))
    have HRd2:=Hid.intro (J.rd.mono (B':=B0+1) (by split <;> omega))
    clear J
    obtain ⟨R2,C2,va2,vq2,gs2,hS2,hI2⟩:=HE.out
    have HE2:=Hid.intro hS2
    clear hS2 HE HS HRd
    have HP:=Hid.intro (HE2.out.post (B:=B) HRd2.out (by omega) (by omega) hI2.1 hI2.2)
    obtain ⟨⟨q0,q1,q2⟩,_⟩:=threeZ HE2.out.gbx
    obtain ⟨⟨z0,z1,z2⟩,y0,y1,y2⟩:=threeZ HE2.out.zbx
    go_wp2
    exact bodyPost_ret (v:=.agg #[.int .i64 R2,.int .i64 C2,.slice va2 _ vq2]) (by simp [results,Try.results33,go_sem,z0,z1,z2]) rfl HP.out
 ·as_aux_lemma =>
   go_upto_region 14 with fail
   refine wp_region_inv2 (fun L act W=>∃ v76 v77 v78 v79 v80 v81 v82 v83 v84 v85 v86 v87 v88:Value,act=⟨#[.pointer (some ⟨r,0,none⟩),.int .i64 n,undef,undef,.pointer (some ⟨w.heap.size,0,none⟩),.pointer (some ⟨gb,0,none⟩),.int .i64 (kk:Int),.pointer (some ⟨r,0,none⟩),xt,xg,.pointer (some ⟨r,0,none⟩),.int .i64 n,.int .i64 k2,.bool (decide (0 < k2)),.bool (decide (0 < k2)),.pointer (some ⟨gb,2,none⟩),.slice (some ⟨gg,0,none⟩) n0 vq,.int .i64 (n0:Int),.bool false,.bool (decide (0 < k2)),undef,.pointer (some ⟨r,0,none⟩),.pointer (some ⟨gb,2,none⟩),.slice (some ⟨gg,0,none⟩) n0 vq,.int .i64 (n0:Int),.int .i64 (kk:Int),.pointer (some ⟨r,0,none⟩),.int .i64 3,undef,undef,undef,undef,undef,undef,undef,undef,undef,undef,.bool false,.bool false,undef,undef,undef,undef,undef,undef,undef,undef,undef,.bool false,.bool false,undef,undef,undef,undef,undef,undef,undef,undef,undef,.bool false,.bool false,undef,undef,undef,undef,undef,undef,undef,undef,undef,undef,undef,undef,.bool true,.bool true,v76,v77,v78,v79,v80,v81,v82,v83,v84,v85,v86,v87,v88,undef,undef,undef,undef,undef,undef,undef,undef,undef,undef,undef,undef,undef,undef,undef,undef,undef,undef,undef,undef,undef,undef,undef],[]⟩∧GrR14 w r gb w.heap.size n0 B0 R C (some ⟨gg,0,none⟩) vq gs gg kk L W v76 v77 v78 v79 v80 v81 v82 v83 v84 v85 v86 v87 v88) hmx (by kernel_rfl) ?hs ?hd ?h0
   case h0=>exact ⟨_,_,_,_,_,_,_,_,_,_,_,_,_,rfl,⟨(fun h=>by cases h),(fun h=>by cases h),(fun h=>by cases h),(fun h=>by cases h),(fun h=>by cases h),(fun h=>by cases h),(fun h _=>by cases h),(fun h=>by cases h),(fun h=>by cases h),(fun h _=>by cases h),(fun h=>by cases h),(fun h=>by cases h),(fun h=>by cases h),HRd.out.drew,(fun _=>HS.out.on (Bk.refl r _).drew),(fun h=>by cases h)⟩⟩
   case hs =>
    intro L act W i o hJ hcl ho hLi haft K hK
    obtain ⟨v76,v77,v78,v79,v80,v81,v82,v83,v84,v85,v86,v87,v88,ha,J⟩:=hJ
    subst ha
    have hi':i < 14:=by
     have:=(Array.getElem?_eq_some_iff.1 ho).1
     simpa using this
    rcases (by omega:i=0∨i=1∨i=2∨i=3∨i=4∨i=5∨i=6∨i=7∨i=8∨i=9∨i=10∨i=11∨i=12∨i=13) with rfl | rfl | rfl | rfl | rfl | rfl | rfl | rfl | rfl | rfl | rfl | rfl | rfl | rfl
    all_goals
     simp only [List.getElem?_toArray,List.getElem?_cons_zero,List.getElem?_cons_succ,Option.some.injEq] at ho
     subst ho
     clear hi'
    ·skip
     have hN:L 13=false:=(hcl 13 12 (by kernel_rfl) (hcl 12 11 (by kernel_rfl) (hcl 11 1 (by kernel_rfl) (hcl 1 0 (by kernel_rfl) hLi))))
     have hS:=J.st hN
     go_simp
     exact hK _ _ ⟨_,_,_,_,_,_,_,_,_,_,_,_,_,rfl,⟨(fun _=>rfl),(fun h=>J.f1 (un h)),(fun h=>J.f2 (un h)),(fun h=>J.f3 (un h)),(fun h=>J.f4 (un h)),(fun h=>J.f5 (un h)),(fun h _=>J.f6 (un h) hN),(fun h=>J.f7 (un h)),(fun h=>J.f8 (un h)),(fun h _=>J.f9 (un h) hN),(fun h=>J.f10 (un h)),(fun h=>J.f11 (un h)),(fun h=>J.f12 (un h)),(by rw [upd_ne rfl];exact J.rd),(fun _=>hS),(fun h=>absurd (hN.symm.trans (un h)) (by simp))⟩⟩
    ·skip
     have hN:L 13=false:=(hcl 13 12 (by kernel_rfl) (hcl 12 11 (by kernel_rfl) (hcl 11 1 (by kernel_rfl) hLi)))
     have hS:=J.st hN
     obtain rfl:=J.f0 (haft ⟨0,.data⟩ (by simp) rfl)
     have hc:W.cell? ⟨gb,2,none⟩=some (.slice (some ⟨gg,0,none⟩) n0 vq):=cellB hS.gbx
     go_simp
     exact hK _ _ ⟨_,_,_,_,_,_,_,_,_,_,_,_,_,rfl,⟨(fun h=>J.f0 (un h)),(fun _=>rfl),(fun h=>J.f2 (un h)),(fun h=>J.f3 (un h)),(fun h=>J.f4 (un h)),(fun h=>J.f5 (un h)),(fun h _=>J.f6 (un h) hN),(fun h=>J.f7 (un h)),(fun h=>J.f8 (un h)),(fun h _=>J.f9 (un h) hN),(fun h=>J.f10 (un h)),(fun h=>J.f11 (un h)),(fun h=>J.f12 (un h)),(by rw [upd_ne rfl];exact J.rd),(fun _=>hS),(fun h=>absurd (hN.symm.trans (un h)) (by simp))⟩⟩
    ·skip
     have hN:L 13=false:=(hcl 13 12 (by kernel_rfl) (hcl 12 11 (by kernel_rfl) (hcl 11 2 (by kernel_rfl) hLi)))
     have hS:=J.st hN
     go_simp
     exact hK _ _ ⟨_,_,_,_,_,_,_,_,_,_,_,_,_,rfl,⟨(fun h=>J.f0 (un h)),(fun h=>J.f1 (un h)),(fun _=>rfl),(fun h=>J.f3 (un h)),(fun h=>J.f4 (un h)),(fun h=>J.f5 (un h)),(fun h _=>J.f6 (un h) hN),(fun h=>J.f7 (un h)),(fun h=>J.f8 (un h)),(fun h _=>J.f9 (un h) hN),(fun h=>J.f10 (un h)),(fun h=>J.f11 (un h)),(fun h=>J.f12 (un h)),(by rw [upd_ne rfl];exact J.rd),(fun _=>hS),(fun h=>absurd (hN.symm.trans (un h)) (by simp))⟩⟩
    ·skip
     have hN:L 13=false:=(hcl 13 10 (by kernel_rfl) (hcl 10 9 (by kernel_rfl) (hcl 9 6 (by kernel_rfl) (hcl 6 5 (by kernel_rfl) (hcl 5 4 (by kernel_rfl) (hcl 4 3 (by kernel_rfl) hLi))))))
     have hS:=J.st hN
     go_simp
     exact hK _ _ ⟨_,_,_,_,_,_,_,_,_,_,_,_,_,rfl,⟨(fun h=>J.f0 (un h)),(fun h=>J.f1 (un h)),(fun h=>J.f2 (un h)),(fun _=>rfl),(fun h=>J.f4 (un h)),(fun h=>J.f5 (un h)),(fun h _=>J.f6 (un h) hN),(fun h=>J.f7 (un h)),(fun h=>J.f8 (un h)),(fun h _=>J.f9 (un h) hN),(fun h=>J.f10 (un h)),(fun h=>J.f11 (un h)),(fun h=>J.f12 (un h)),(by rw [upd_ne rfl];exact J.rd),(fun _=>hS),(fun h=>absurd (hN.symm.trans (un h)) (by simp))⟩⟩
    ·skip
     have hN:L 13=false:=(hcl 13 10 (by kernel_rfl) (hcl 10 9 (by kernel_rfl) (hcl 9 6 (by kernel_rfl) (hcl 6 5 (by kernel_rfl) (hcl 5 4 (by kernel_rfl) hLi)))))
     have hS:=J.st hN
     obtain rfl:=J.f3 (haft ⟨3,.data⟩ (by simp) rfl)
     have hc:W.cell? ⟨gb,1,none⟩=some (.int .i64 C):=cellB hS.gbx
     go_simp
     exact hK _ _ ⟨_,_,_,_,_,_,_,_,_,_,_,_,_,rfl,⟨(fun h=>J.f0 (un h)),(fun h=>J.f1 (un h)),(fun h=>J.f2 (un h)),(fun h=>J.f3 (un h)),(fun _=>rfl),(fun h=>J.f5 (un h)),(fun h _=>J.f6 (un h) hN),(fun h=>J.f7 (un h)),(fun h=>J.f8 (un h)),(fun h _=>J.f9 (un h) hN),(fun h=>J.f10 (un h)),(fun h=>J.f11 (un h)),(fun h=>J.f12 (un h)),(by rw [upd_ne rfl];exact J.rd),(fun _=>hS),(fun h=>absurd (hN.symm.trans (un h)) (by simp))⟩⟩
    ·skip
     have hN:L 13=false:=(hcl 13 10 (by kernel_rfl) (hcl 10 9 (by kernel_rfl) (hcl 9 6 (by kernel_rfl) (hcl 6 5 (by kernel_rfl) hLi))))
     have hS:=J.st hN
     obtain rfl:=J.f4 (haft ⟨4,.data⟩ (by simp) rfl)
     go_simp
     exact hK _ _ ⟨_,_,_,_,_,_,_,_,_,_,_,_,_,rfl,⟨(fun h=>J.f0 (un h)),(fun h=>J.f1 (un h)),(fun h=>J.f2 (un h)),(fun h=>J.f3 (un h)),(fun h=>J.f4 (un h)),(fun _=>rfl),(fun h _=>J.f6 (un h) hN),(fun h=>J.f7 (un h)),(fun h=>J.f8 (un h)),(fun h _=>J.f9 (un h) hN),(fun h=>J.f10 (un h)),(fun h=>J.f11 (un h)),(fun h=>J.f12 (un h)),(by rw [upd_ne rfl];exact J.rd),(fun _=>hS),(fun h=>absurd (hN.symm.trans (un h)) (by simp))⟩⟩
    ·skip
     have hN:L 13=false:=(hcl 13 10 (by kernel_rfl) (hcl 10 9 (by kernel_rfl) (hcl 9 6 (by kernel_rfl) hLi)))
     have hS:=J.st hN
     obtain rfl:=J.f5 (haft ⟨5,.data⟩ (by simp) rfl)
     have hsz:=hS.bk.size
     go_simp
     exact hK _ _ ⟨_,_,_,_,_,_,_,_,_,_,_,_,_,rfl,⟨(fun h=>J.f0 (un h)),(fun h=>J.f1 (un h)),(fun h=>J.f2 (un h)),(fun h=>J.f3 (un h)),(fun h=>J.f4 (un h)),(fun h=>J.f5 (un h)),(fun _ _=>⟨W.heap.size,_,rfl,Hp.new hsz _,rfl⟩),(fun h=>J.f7 (un h)),(fun h=>J.f8 (un h)),(fun h _=>(J.f9 (un h) hN).bk hS.lt (bk_alloc r W _)),(fun h=>J.f10 (un h)),(fun h=>J.f11 (un h)),(fun h=>J.f12 (un h)),(by rw [upd_ne rfl];exact J.rd.alloc _),(fun _=>hS.on (bk_alloc r W _)),(fun h=>absurd (hN.symm.trans (un h)) (by simp))⟩⟩
    ·skip
     have hN:L 13=false:=(hcl 13 10 (by kernel_rfl) (hcl 10 9 (by kernel_rfl) (hcl 9 8 (by kernel_rfl) (hcl 8 7 (by kernel_rfl) hLi))))
     have hS:=J.st hN
     go_simp
     exact hK _ _ ⟨_,_,_,_,_,_,_,_,_,_,_,_,_,rfl,⟨(fun h=>J.f0 (un h)),(fun h=>J.f1 (un h)),(fun h=>J.f2 (un h)),(fun h=>J.f3 (un h)),(fun h=>J.f4 (un h)),(fun h=>J.f5 (un h)),(fun h _=>J.f6 (un h) hN),(fun _=>rfl),(fun h=>J.f8 (un h)),(fun h _=>J.f9 (un h) hN),(fun h=>J.f10 (un h)),(fun h=>J.f11 (un h)),(fun h=>J.f12 (un h)),(by rw [upd_ne rfl];exact J.rd),(fun _=>hS),(fun h=>absurd (hN.symm.trans (un h)) (by simp))⟩⟩
    ·skip
     have hN:L 13=false:=(hcl 13 10 (by kernel_rfl) (hcl 10 9 (by kernel_rfl) (hcl 9 8 (by kernel_rfl) hLi)))
     have hS:=J.st hN
     have hR0:Rd W r B0:=by have h:=J.rd;rw [if_neg (by rw [hLi];simp)] at h;exact h
     obtain rfl:=J.f7 (haft ⟨7,.data⟩ (by simp) rfl)
     go_simp
     go_wp2_with (go_at_call 34;refine (pick_any r _ _ _ hR0 (by omega)).mono ?_;rintro e W2 ⟨k,rfl,hk,hR,hb⟩)
     have hk2:=hk (by omega)
     exact ⟨_,_,_,_,_,_,_,_,_,_,_,_,_,rfl,⟨(fun h=>J.f0 (un h)),(fun h=>J.f1 (un h)),(fun h=>J.f2 (un h)),(fun h=>J.f3 (un h)),(fun h=>J.f4 (un h)),(fun h=>J.f5 (un h)),(fun h _=>(J.f6 (un h) hN).bk hS.lt hb),(fun h=>J.f7 (un h)),(fun _=>⟨k,rfl,by omega,by omega⟩),(fun h _=>(J.f9 (un h) hN).bk hS.lt hb),(fun h=>J.f10 (un h)),(fun h=>J.f11 (un h)),(fun h=>J.f12 (un h)),(by rw [if_pos upd_self];exact hR),(fun _=>hS.on hb),(fun h=>absurd (hN.symm.trans (un h)) (by simp))⟩⟩
    ·skip
     have hN:L 13=false:=(hcl 13 10 (by kernel_rfl) (hcl 10 9 (by kernel_rfl) hLi))
     have hS:=J.st hN
     obtain ⟨g1,arr,rfl,hg,rfl⟩:=J.f6 (haft ⟨6,.data⟩ (by simp) rfl) hN
     obtain ⟨k,rfl,k0,k1⟩:=J.f8 (haft ⟨8,.data⟩ (by simp) rfl)
     have k2:k < 3:=by omega
     obtain ⟨v,hv⟩:=gl3 0 (C+1) 2 (by unfold I64;omega) hwC.2 (by unfold I64;omega) k k0 k2
     go_simp
     exact hK _ _ ⟨_,_,_,_,_,_,_,_,_,_,_,_,_,rfl,⟨(fun h=>J.f0 (un h)),(fun h=>J.f1 (un h)),(fun h=>J.f2 (un h)),(fun h=>J.f3 (un h)),(fun h=>J.f4 (un h)),(fun h=>J.f5 (un h)),(fun h _=>J.f6 (un h) hN),(fun h=>J.f7 (un h)),(fun h=>J.f8 (un h)),(fun _ _=>⟨g1,k.toNat,_,rfl,hg,v,hv⟩),(fun h=>J.f10 (un h)),(fun h=>J.f11 (un h)),(fun h=>J.f12 (un h)),(by rw [upd_ne rfl];exact J.rd),(fun _=>hS),(fun h=>absurd (hN.symm.trans (un h)) (by simp))⟩⟩
    ·skip
     have hN:L 13=false:=(hcl 13 10 (by kernel_rfl) hLi)
     have hS:=J.st hN
     obtain ⟨g1,k,arr,rfl,hg,v,hv,v0⟩:=J.f9 (haft ⟨9,.data⟩ (by simp) rfl) hN
     have hc:W.cell? ⟨g1,k,none⟩=some (.int .i64 v):=(cellB hg.2).trans hv
     go_simp
     exact hK _ _ ⟨_,_,_,_,_,_,_,_,_,_,_,_,_,rfl,⟨(fun h=>J.f0 (un h)),(fun h=>J.f1 (un h)),(fun h=>J.f2 (un h)),(fun h=>J.f3 (un h)),(fun h=>J.f4 (un h)),(fun h=>J.f5 (un h)),(fun h _=>J.f6 (un h) hN),(fun h=>J.f7 (un h)),(fun h=>J.f8 (un h)),(fun h _=>J.f9 (un h) hN),(fun _=>⟨v,rfl,v0⟩),(fun h=>J.f11 (un h)),(fun h=>J.f12 (un h)),(by rw [upd_ne rfl];exact J.rd),(fun _=>hS),(fun h=>absurd (hN.symm.trans (un h)) (by simp))⟩⟩
    ·skip
     have hN:L 13=false:=(hcl 13 12 (by kernel_rfl) (hcl 12 11 (by kernel_rfl) hLi))
     have hS:=J.st hN
     obtain rfl:=J.f1 (haft ⟨1,.data⟩ (by simp) rfl)
     obtain rfl:=J.f2 (haft ⟨2,.data⟩ (by simp) rfl)
     go_simp
     exact hK _ _ ⟨_,_,_,_,_,_,_,_,_,_,_,_,_,rfl,⟨(fun h=>J.f0 (un h)),(fun h=>J.f1 (un h)),(fun h=>J.f2 (un h)),(fun h=>J.f3 (un h)),(fun h=>J.f4 (un h)),(fun h=>J.f5 (un h)),(fun h _=>J.f6 (un h) hN),(fun h=>J.f7 (un h)),(fun h=>J.f8 (un h)),(fun h _=>J.f9 (un h) hN),(fun h=>J.f10 (un h)),(fun _=>rfl),(fun h=>J.f12 (un h)),(by rw [upd_ne rfl];exact J.rd),(fun _=>hS),(fun h=>absurd (hN.symm.trans (un h)) (by simp))⟩⟩
    ·skip
     have hN:L 13=false:=(hcl 13 12 (by kernel_rfl) hLi)
     have hS:=J.st hN
     obtain rfl:=J.f11 (haft ⟨11,.data⟩ (by simp) rfl)
     go_simp
     exact hK _ _ ⟨_,_,_,_,_,_,_,_,_,_,_,_,_,rfl,⟨(fun h=>J.f0 (un h)),(fun h=>J.f1 (un h)),(fun h=>J.f2 (un h)),(fun h=>J.f3 (un h)),(fun h=>J.f4 (un h)),(fun h=>J.f5 (un h)),(fun h _=>J.f6 (un h) hN),(fun h=>J.f7 (un h)),(fun h=>J.f8 (un h)),(fun h _=>J.f9 (un h) hN),(fun h=>J.f10 (un h)),(fun h=>J.f11 (un h)),(fun _=>rfl),(by rw [upd_ne rfl];exact J.rd),(fun _=>hS),(fun h=>absurd (hN.symm.trans (un h)) (by simp))⟩⟩
    ·skip
     have hN:L 13=false:=hLi
     have hS:=J.st hN
     obtain ⟨v,rfl,v0⟩:=J.f10 (haft ⟨10,.data⟩ (by simp) rfl)
     obtain rfl:=J.f12 (haft ⟨12,.data⟩ (by simp) rfl)
     have hc:W.cell? ⟨gg,kk * 5+3,none⟩=some _:=(hS.cel hkn (j:=3) (by decide)).trans (show _=some _ from rfl)
     have hf:=hS.frz (by omega) (kk * 5+3)
     go_simp
     exact hK _ _ ⟨_,_,_,_,_,_,_,_,_,_,_,_,_,rfl,⟨(fun h=>J.f0 (un h)),(fun h=>J.f1 (un h)),(fun h=>J.f2 (un h)),(fun h=>J.f3 (un h)),(fun h=>J.f4 (un h)),(fun h=>J.f5 (un h)),(fun _ h=>absurd (h.symm.trans upd_self) (by simp)),(fun h=>J.f7 (un h)),(fun h=>J.f8 (un h)),(fun _ h=>absurd (h.symm.trans upd_self) (by simp)),(fun h=>J.f10 (un h)),(fun h=>J.f11 (un h)),(fun h=>J.f12 (un h)),(by rw [upd_ne rfl];exact J.rd.set (p:=⟨gg,_,none⟩) (by show r < gg;have:=hS.lt;have:=hS.hg;omega) _),(fun h=>absurd (h.symm.trans upd_self) (by simp)),(fun _=>⟨R,C,_,vq,_,hS.setG (j:=3) (v:=.int .i64 v) hkn (by decide) (y:=⟨(gs.getD kk dG).row,(gs.getD kk dG).col,(gs.getD kk dG).rows,v,(gs.getD kk dG).ins⟩) rfl ⟨⟨hX.1.1,hX.1.2.1,hX.1.2.2.1,v0,hX.1.2.2.2.2⟩,hX.2⟩,hI.1,hI.2⟩)⟩⟩
   case hd =>
    intro L act W hJ hall
    obtain ⟨v76,v77,v78,v79,v80,v81,v82,v83,v84,v85,v86,v87,v88,ha,J⟩:=hJ
    subst ha
    have HE:=Hid.intro (J.fin (hall 13 (by simp)))
    have HRd2:=Hid.intro (J.rd.mono (B':=B0+1) (by split <;> omega))
    clear J
    obtain ⟨R2,C2,va2,vq2,gs2,hS2,hI2⟩:=HE.out
    have HE2:=Hid.intro hS2
    clear hS2 HE HS HRd
    have HP:=Hid.intro (HE2.out.post (B:=B) HRd2.out (by omega) (by omega) hI2.1 hI2.2)
    obtain ⟨⟨q0,q1,q2⟩,_⟩:=threeZ HE2.out.gbx
    obtain ⟨⟨z0,z1,z2⟩,y0,y1,y2⟩:=threeZ HE2.out.zbx
    go_wp2
    exact bodyPost_ret (v:=.agg #[.int .i64 R2,.int .i64 C2,.slice va2 _ vq2]) (by simp [results,Try.results33,go_sem,z0,z1,z2]) rfl HP.out
 ·as_aux_lemma =>
   go_upto_region 16 with fail
   generalize Value.slice (some ⟨gg,0,none⟩) n0 vq=xs
   refine wp_region_inv2 (fun L act W=>∃ v91 v92 v93 v94 v95 v96 v97 v98 v99 v100:Value,act=⟨#[.pointer (some ⟨r,0,none⟩),.int .i64 n,undef,undef,.pointer (some ⟨w.heap.size,0,none⟩),.pointer (some ⟨gb,0,none⟩),.int .i64 (kk:Int),.pointer (some ⟨r,0,none⟩),xt,xg,.pointer (some ⟨r,0,none⟩),.int .i64 n,.int .i64 k2,.bool (decide (0 < k2)),.bool (decide (0 < k2)),.pointer (some ⟨gb,2,none⟩),xs,.int .i64 (n0:Int),.bool false,.bool (decide (0 < k2)),undef,.pointer (some ⟨r,0,none⟩),.pointer (some ⟨gb,2,none⟩),xs,.int .i64 (n0:Int),.int .i64 (kk:Int),.pointer (some ⟨r,0,none⟩),.int .i64 4,undef,undef,undef,undef,undef,undef,undef,undef,undef,undef,.bool false,.bool false,undef,undef,undef,undef,undef,undef,undef,undef,undef,.bool false,.bool false,undef,undef,undef,undef,undef,undef,undef,undef,undef,.bool false,.bool false,undef,undef,undef,undef,undef,undef,undef,undef,undef,undef,undef,undef,.bool false,.bool false,undef,undef,undef,undef,undef,undef,undef,undef,undef,undef,undef,undef,undef,.bool true,.bool true,v91,v92,v93,v94,v95,v96,v97,v98,v99,v100,undef,undef,undef,undef,undef,undef,undef,undef,undef,undef,undef],[]⟩∧GrR16 w r gb w.heap.size n0 B0 R C (some ⟨gg,0,none⟩) vq gs gg kk L W v91 v92 v93 v94 v95 v96 v97 v98 v99 v100) hmx (by kernel_rfl) ?hs ?hd ?h0
   case h0=>exact ⟨_,_,_,_,_,_,_,_,_,_,rfl,⟨(fun h=>by cases h),(fun h=>by cases h),(fun h=>by cases h),(fun h _=>by cases h),(fun h=>by cases h),(fun h=>by cases h),(fun h _=>by cases h),(fun h=>by cases h),(fun h=>by cases h),(fun h=>by cases h),HRd.out.drew,(fun _=>HS.out.on (Bk.refl r _).drew),(fun h=>by cases h)⟩⟩
   case hs =>
    intro L act W i o hJ hcl ho hLi haft K hK
    obtain ⟨v91,v92,v93,v94,v95,v96,v97,v98,v99,v100,ha,J⟩:=hJ
    subst ha
    have hi':i < 11:=by
     have:=(Array.getElem?_eq_some_iff.1 ho).1
     simpa using this
    rcases (by omega:i=0∨i=1∨i=2∨i=3∨i=4∨i=5∨i=6∨i=7∨i=8∨i=9∨i=10) with rfl | rfl | rfl | rfl | rfl | rfl | rfl | rfl | rfl | rfl | rfl
    all_goals
     simp only [List.getElem?_toArray,List.getElem?_cons_zero,List.getElem?_cons_succ,Option.some.injEq] at ho
     subst ho
     clear hi'
    ·skip
     have hN:L 10=false:=(hcl 10 9 (by kernel_rfl) (hcl 9 8 (by kernel_rfl) (hcl 8 1 (by kernel_rfl) (hcl 1 0 (by kernel_rfl) hLi))))
     have hS:=J.st hN
     go_simp
     exact hK _ _ ⟨_,_,_,_,_,_,_,_,_,_,rfl,⟨(fun _=>rfl),(fun h=>J.f1 (un h)),(fun h=>J.f2 (un h)),(fun h _=>J.f3 (un h) hN),(fun h=>J.f4 (un h)),(fun h=>J.f5 (un h)),(fun h _=>J.f6 (un h) hN),(fun h=>J.f7 (un h)),(fun h=>J.f8 (un h)),(fun h=>J.f9 (un h)),(by rw [upd_ne rfl];exact J.rd),(fun _=>hS),(fun h=>absurd (hN.symm.trans (un h)) (by simp))⟩⟩
    ·skip
     have hN:L 10=false:=(hcl 10 9 (by kernel_rfl) (hcl 9 8 (by kernel_rfl) (hcl 8 1 (by kernel_rfl) hLi)))
     have hS:=J.st hN
     obtain rfl:=J.f0 (haft ⟨0,.data⟩ (by simp) rfl)
     have hc:W.cell? ⟨gb,2,none⟩=some (.slice (some ⟨gg,0,none⟩) n0 vq):=cellB hS.gbx
     go_simp
     exact hK _ _ ⟨_,_,_,_,_,_,_,_,_,_,rfl,⟨(fun h=>J.f0 (un h)),(fun _=>rfl),(fun h=>J.f2 (un h)),(fun h _=>J.f3 (un h) hN),(fun h=>J.f4 (un h)),(fun h=>J.f5 (un h)),(fun h _=>J.f6 (un h) hN),(fun h=>J.f7 (un h)),(fun h=>J.f8 (un h)),(fun h=>J.f9 (un h)),(by rw [upd_ne rfl];exact J.rd),(fun _=>hS),(fun h=>absurd (hN.symm.trans (un h)) (by simp))⟩⟩
    ·skip
     have hN:L 10=false:=(hcl 10 9 (by kernel_rfl) (hcl 9 8 (by kernel_rfl) (hcl 8 2 (by kernel_rfl) hLi)))
     have hS:=J.st hN
     go_simp
     exact hK _ _ ⟨_,_,_,_,_,_,_,_,_,_,rfl,⟨(fun h=>J.f0 (un h)),(fun h=>J.f1 (un h)),(fun _=>rfl),(fun h _=>J.f3 (un h) hN),(fun h=>J.f4 (un h)),(fun h=>J.f5 (un h)),(fun h _=>J.f6 (un h) hN),(fun h=>J.f7 (un h)),(fun h=>J.f8 (un h)),(fun h=>J.f9 (un h)),(by rw [upd_ne rfl];exact J.rd),(fun _=>hS),(fun h=>absurd (hN.symm.trans (un h)) (by simp))⟩⟩
    ·skip
     have hN:L 10=false:=(hcl 10 7 (by kernel_rfl) (hcl 7 6 (by kernel_rfl) (hcl 6 3 (by kernel_rfl) hLi)))
     have hS:=J.st hN
     have hsz:=hS.bk.size
     go_simp
     exact hK _ _ ⟨_,_,_,_,_,_,_,_,_,_,rfl,⟨(fun h=>J.f0 (un h)),(fun h=>J.f1 (un h)),(fun h=>J.f2 (un h)),(fun _ _=>⟨W.heap.size,_,rfl,Hp.new hsz _,rfl⟩),(fun h=>J.f4 (un h)),(fun h=>J.f5 (un h)),(fun h _=>(J.f6 (un h) hN).bk hS.lt (bk_alloc r W _)),(fun h=>J.f7 (un h)),(fun h=>J.f8 (un h)),(fun h=>J.f9 (un h)),(by rw [upd_ne rfl];exact J.rd.alloc _),(fun _=>hS.on (bk_alloc r W _)),(fun h=>absurd (hN.symm.trans (un h)) (by simp))⟩⟩
    ·skip
     have hN:L 10=false:=(hcl 10 7 (by kernel_rfl) (hcl 7 6 (by kernel_rfl) (hcl 6 5 (by kernel_rfl) (hcl 5 4 (by kernel_rfl) hLi))))
     have hS:=J.st hN
     go_simp
     exact hK _ _ ⟨_,_,_,_,_,_,_,_,_,_,rfl,⟨(fun h=>J.f0 (un h)),(fun h=>J.f1 (un h)),(fun h=>J.f2 (un h)),(fun h _=>J.f3 (un h) hN),(fun _=>rfl),(fun h=>J.f5 (un h)),(fun h _=>J.f6 (un h) hN),(fun h=>J.f7 (un h)),(fun h=>J.f8 (un h)),(fun h=>J.f9 (un h)),(by rw [upd_ne rfl];exact J.rd),(fun _=>hS),(fun h=>absurd (hN.symm.trans (un h)) (by simp))⟩⟩
    ·skip
     have hN:L 10=false:=(hcl 10 7 (by kernel_rfl) (hcl 7 6 (by kernel_rfl) (hcl 6 5 (by kernel_rfl) hLi)))
     have hS:=J.st hN
     have hR0:Rd W r B0:=by have h:=J.rd;rw [if_neg (by rw [hLi];simp)] at h;exact h
     obtain rfl:=J.f4 (haft ⟨4,.data⟩ (by simp) rfl)
     go_simp
     go_wp2_with (go_at_call 34;refine (pick_any r _ _ _ hR0 (by omega)).mono ?_;rintro e W2 ⟨k,rfl,hk,hR,hb⟩)
     have hk2:=hk (by omega)
     exact ⟨_,_,_,_,_,_,_,_,_,_,rfl,⟨(fun h=>J.f0 (un h)),(fun h=>J.f1 (un h)),(fun h=>J.f2 (un h)),(fun h _=>(J.f3 (un h) hN).bk hS.lt hb),(fun h=>J.f4 (un h)),(fun _=>⟨k,rfl,by omega,by omega⟩),(fun h _=>(J.f6 (un h) hN).bk hS.lt hb),(fun h=>J.f7 (un h)),(fun h=>J.f8 (un h)),(fun h=>J.f9 (un h)),(by rw [if_pos upd_self];exact hR),(fun _=>hS.on hb),(fun h=>absurd (hN.symm.trans (un h)) (by simp))⟩⟩
    ·skip
     have hN:L 10=false:=(hcl 10 7 (by kernel_rfl) (hcl 7 6 (by kernel_rfl) hLi))
     have hS:=J.st hN
     obtain ⟨g1,arr,rfl,hg,rfl⟩:=J.f3 (haft ⟨3,.data⟩ (by simp) rfl) hN
     obtain ⟨k,rfl,k0,k1⟩:=J.f5 (haft ⟨5,.data⟩ (by simp) rfl)
     have k2:k < 2:=by omega
     obtain ⟨v,hv⟩:=gl2 (-1) 5 (by unfold I64;omega) (by unfold I64;omega) k k0 k2
     go_simp
     exact hK _ _ ⟨_,_,_,_,_,_,_,_,_,_,rfl,⟨(fun h=>J.f0 (un h)),(fun h=>J.f1 (un h)),(fun h=>J.f2 (un h)),(fun h _=>J.f3 (un h) hN),(fun h=>J.f4 (un h)),(fun h=>J.f5 (un h)),(fun _ _=>⟨g1,k.toNat,_,rfl,hg,v,hv⟩),(fun h=>J.f7 (un h)),(fun h=>J.f8 (un h)),(fun h=>J.f9 (un h)),(by rw [upd_ne rfl];exact J.rd),(fun _=>hS),(fun h=>absurd (hN.symm.trans (un h)) (by simp))⟩⟩
    ·skip
     have hN:L 10=false:=(hcl 10 7 (by kernel_rfl) hLi)
     have hS:=J.st hN
     obtain ⟨g1,k,arr,rfl,hg,v,hv,v0⟩:=J.f6 (haft ⟨6,.data⟩ (by simp) rfl) hN
     have hc:W.cell? ⟨g1,k,none⟩=some (.int .i64 v):=(cellB hg.2).trans hv
     go_simp
     exact hK _ _ ⟨_,_,_,_,_,_,_,_,_,_,rfl,⟨(fun h=>J.f0 (un h)),(fun h=>J.f1 (un h)),(fun h=>J.f2 (un h)),(fun h _=>J.f3 (un h) hN),(fun h=>J.f4 (un h)),(fun h=>J.f5 (un h)),(fun h _=>J.f6 (un h) hN),(fun _=>⟨v,rfl,v0⟩),(fun h=>J.f8 (un h)),(fun h=>J.f9 (un h)),(by rw [upd_ne rfl];exact J.rd),(fun _=>hS),(fun h=>absurd (hN.symm.trans (un h)) (by simp))⟩⟩
    ·skip
     have hN:L 10=false:=(hcl 10 9 (by kernel_rfl) (hcl 9 8 (by kernel_rfl) hLi))
     have hS:=J.st hN
     obtain rfl:=J.f1 (haft ⟨1,.data⟩ (by simp) rfl)
     obtain rfl:=J.f2 (haft ⟨2,.data⟩ (by simp) rfl)
     go_simp
     exact hK _ _ ⟨_,_,_,_,_,_,_,_,_,_,rfl,⟨(fun h=>J.f0 (un h)),(fun h=>J.f1 (un h)),(fun h=>J.f2 (un h)),(fun h _=>J.f3 (un h) hN),(fun h=>J.f4 (un h)),(fun h=>J.f5 (un h)),(fun h _=>J.f6 (un h) hN),(fun h=>J.f7 (un h)),(fun _=>rfl),(fun h=>J.f9 (un h)),(by rw [upd_ne rfl];exact J.rd),(fun _=>hS),(fun h=>absurd (hN.symm.trans (un h)) (by simp))⟩⟩
    ·skip
     have hN:L 10=false:=(hcl 10 9 (by kernel_rfl) hLi)
     have hS:=J.st hN
     obtain rfl:=J.f8 (haft ⟨8,.data⟩ (by simp) rfl)
     go_simp
     exact hK _ _ ⟨_,_,_,_,_,_,_,_,_,_,rfl,⟨(fun h=>J.f0 (un h)),(fun h=>J.f1 (un h)),(fun h=>J.f2 (un h)),(fun h _=>J.f3 (un h) hN),(fun h=>J.f4 (un h)),(fun h=>J.f5 (un h)),(fun h _=>J.f6 (un h) hN),(fun h=>J.f7 (un h)),(fun h=>J.f8 (un h)),(fun _=>rfl),(by rw [upd_ne rfl];exact J.rd),(fun _=>hS),(fun h=>absurd (hN.symm.trans (un h)) (by simp))⟩⟩
    ·skip
     have hN:L 10=false:=hLi
     have hS:=J.st hN
     obtain ⟨v,rfl,v0⟩:=J.f7 (haft ⟨7,.data⟩ (by simp) rfl)
     obtain rfl:=J.f9 (haft ⟨9,.data⟩ (by simp) rfl)
     have hc:W.cell? ⟨gg,kk * 5+4,none⟩=some _:=(hS.cel hkn (j:=4) (by decide)).trans (show _=some _ from rfl)
     have hf:=hS.frz (by omega) (kk * 5+4)
     go_simp
     exact hK _ _ ⟨_,_,_,_,_,_,_,_,_,_,rfl,⟨(fun h=>J.f0 (un h)),(fun h=>J.f1 (un h)),(fun h=>J.f2 (un h)),(fun _ h=>absurd (h.symm.trans upd_self) (by simp)),(fun h=>J.f4 (un h)),(fun h=>J.f5 (un h)),(fun _ h=>absurd (h.symm.trans upd_self) (by simp)),(fun h=>J.f7 (un h)),(fun h=>J.f8 (un h)),(fun h=>J.f9 (un h)),(by rw [upd_ne rfl];exact J.rd.set (p:=⟨gg,_,none⟩) (by show r < gg;have:=hS.lt;have:=hS.hg;omega) _),(fun h=>absurd (h.symm.trans upd_self) (by simp)),(fun _=>⟨R,C,_,vq,_,hS.setG (j:=4) (v:=.int .i64 v) hkn (by decide) (y:=⟨(gs.getD kk dG).row,(gs.getD kk dG).col,(gs.getD kk dG).rows,(gs.getD kk dG).cols,v⟩) rfl ⟨⟨hX.1.1,hX.1.2.1,hX.1.2.2.1,hX.1.2.2.2.1,v0⟩,hX.2⟩,hI.1,hI.2⟩)⟩⟩
   case hd =>
    intro L act W hJ hall
    obtain ⟨v91,v92,v93,v94,v95,v96,v97,v98,v99,v100,ha,J⟩:=hJ
    subst ha
    have HE:=Hid.intro (J.fin (hall 10 (by simp)))
    have HRd2:=Hid.intro (J.rd.mono (B':=B0+1) (by split <;> omega))
    clear J
    obtain ⟨R,C,va,vq,gs,hS2,hI⟩:=HE.out
    obtain ⟨gg,cur,rfl,hgg,hg1,hg2,hq1,hq2,-⟩:=hS2.blk (by omega)
    have hX:GOk9 (gs.getD kk dG):=hS2.gok _ (getD_mem' (by rw [hS2.len];exact hkn))
    clear HS HRd
    have HS:=Hid.intro hS2
    have HRd:=HRd2
    clear hS2 HE HRd2
    obtain ⟨B1,hB2⟩:∃ B1,B0+1=B1:=⟨_,rfl⟩
    rw [hB2] at HRd
    have hB3:B1≤B+2004:=by omega
    clear hB2 hB1
    skip
    go_upto_region 17 with fail
    refine wp_region_inv2 (fun L act W=>∃ v101 v102 v103 v104 v105 v106 v107 v108 v109 v110:Value,act=⟨#[.pointer (some ⟨r,0,none⟩),.int .i64 n,undef,undef,.pointer (some ⟨w.heap.size,0,none⟩),.pointer (some ⟨gb,0,none⟩),.int .i64 (kk:Int),.pointer (some ⟨r,0,none⟩),xt,xg,.pointer (some ⟨r,0,none⟩),.int .i64 n,.int .i64 k2,.bool (decide (0 < k2)),.bool (decide (0 < k2)),.pointer (some ⟨gb,2,none⟩),xs,.int .i64 (n0:Int),.bool false,.bool (decide (0 < k2)),undef,.pointer (some ⟨r,0,none⟩),.pointer (some ⟨gb,2,none⟩),xs,.int .i64 (n0:Int),.int .i64 (kk:Int),.pointer (some ⟨r,0,none⟩),.int .i64 4,undef,undef,undef,undef,undef,undef,undef,undef,undef,undef,.bool false,.bool false,undef,undef,undef,undef,undef,undef,undef,undef,undef,.bool false,.bool false,undef,undef,undef,undef,undef,undef,undef,undef,undef,.bool false,.bool false,undef,undef,undef,undef,undef,undef,undef,undef,undef,undef,undef,undef,.bool false,.bool false,undef,undef,undef,undef,undef,undef,undef,undef,undef,undef,undef,undef,undef,.bool true,.bool true,v91,v92,v93,v94,v95,v96,v97,v98,v99,v100,v101,v102,v103,v104,v105,v106,v107,v108,v109,v110,undef],[]⟩∧GrR17 w r gb w.heap.size n0 B1 R C (some ⟨gg,0,none⟩) vq gs gg kk L W v101 v102 v103 v104 v105 v106 v107 v108 v109 v110) hmx (by kernel_rfl) ?hs ?hd ?h0
    case h0=>exact ⟨_,_,_,_,_,_,_,_,_,_,rfl,⟨(fun h=>by cases h),(fun h=>by cases h),(fun h=>by cases h),(fun h _=>by cases h),(fun h=>by cases h),(fun h=>by cases h),(fun h _=>by cases h),(fun h=>by cases h),(fun h=>by cases h),(fun h=>by cases h),HRd.out.drew,(fun _=>HS.out.on (Bk.refl r _).drew),(fun h=>by cases h)⟩⟩
    case hs =>
     intro L act W i o hJ hcl ho hLi haft K hK
     obtain ⟨v101,v102,v103,v104,v105,v106,v107,v108,v109,v110,ha,J⟩:=hJ
     subst ha
     have hi':i < 11:=by
      have:=(Array.getElem?_eq_some_iff.1 ho).1
      simpa using this
     rcases (by omega:i=0∨i=1∨i=2∨i=3∨i=4∨i=5∨i=6∨i=7∨i=8∨i=9∨i=10) with rfl | rfl | rfl | rfl | rfl | rfl | rfl | rfl | rfl | rfl | rfl
     all_goals
      simp only [List.getElem?_toArray,List.getElem?_cons_zero,List.getElem?_cons_succ,Option.some.injEq] at ho
      subst ho
      clear hi'
     ·skip
      have hN:L 10=false:=(hcl 10 9 (by kernel_rfl) (hcl 9 8 (by kernel_rfl) (hcl 8 1 (by kernel_rfl) (hcl 1 0 (by kernel_rfl) hLi))))
      have hS:=J.st hN
      go_simp
      exact hK _ _ ⟨_,_,_,_,_,_,_,_,_,_,rfl,⟨(fun _=>rfl),(fun h=>J.f1 (un h)),(fun h=>J.f2 (un h)),(fun h _=>J.f3 (un h) hN),(fun h=>J.f4 (un h)),(fun h=>J.f5 (un h)),(fun h _=>J.f6 (un h) hN),(fun h=>J.f7 (un h)),(fun h=>J.f8 (un h)),(fun h=>J.f9 (un h)),(by rw [upd_ne rfl];exact J.rd),(fun _=>hS),(fun h=>absurd (hN.symm.trans (un h)) (by simp))⟩⟩
     ·skip
      have hN:L 10=false:=(hcl 10 9 (by kernel_rfl) (hcl 9 8 (by kernel_rfl) (hcl 8 1 (by kernel_rfl) hLi)))
      have hS:=J.st hN
      obtain rfl:=J.f0 (haft ⟨0,.data⟩ (by simp) rfl)
      have hc:W.cell? ⟨gb,2,none⟩=some (.slice (some ⟨gg,0,none⟩) n0 vq):=cellB hS.gbx
      go_simp
      exact hK _ _ ⟨_,_,_,_,_,_,_,_,_,_,rfl,⟨(fun h=>J.f0 (un h)),(fun _=>rfl),(fun h=>J.f2 (un h)),(fun h _=>J.f3 (un h) hN),(fun h=>J.f4 (un h)),(fun h=>J.f5 (un h)),(fun h _=>J.f6 (un h) hN),(fun h=>J.f7 (un h)),(fun h=>J.f8 (un h)),(fun h=>J.f9 (un h)),(by rw [upd_ne rfl];exact J.rd),(fun _=>hS),(fun h=>absurd (hN.symm.trans (un h)) (by simp))⟩⟩
     ·skip
      have hN:L 10=false:=(hcl 10 9 (by kernel_rfl) (hcl 9 8 (by kernel_rfl) (hcl 8 2 (by kernel_rfl) hLi)))
      have hS:=J.st hN
      go_simp
      exact hK _ _ ⟨_,_,_,_,_,_,_,_,_,_,rfl,⟨(fun h=>J.f0 (un h)),(fun h=>J.f1 (un h)),(fun _=>rfl),(fun h _=>J.f3 (un h) hN),(fun h=>J.f4 (un h)),(fun h=>J.f5 (un h)),(fun h _=>J.f6 (un h) hN),(fun h=>J.f7 (un h)),(fun h=>J.f8 (un h)),(fun h=>J.f9 (un h)),(by rw [upd_ne rfl];exact J.rd),(fun _=>hS),(fun h=>absurd (hN.symm.trans (un h)) (by simp))⟩⟩
     ·skip
      have hN:L 10=false:=(hcl 10 7 (by kernel_rfl) (hcl 7 6 (by kernel_rfl) (hcl 6 3 (by kernel_rfl) hLi)))
      have hS:=J.st hN
      have hsz:=hS.bk.size
      go_simp
      exact hK _ _ ⟨_,_,_,_,_,_,_,_,_,_,rfl,⟨(fun h=>J.f0 (un h)),(fun h=>J.f1 (un h)),(fun h=>J.f2 (un h)),(fun _ _=>⟨W.heap.size,_,rfl,Hp.new hsz _,rfl⟩),(fun h=>J.f4 (un h)),(fun h=>J.f5 (un h)),(fun h _=>(J.f6 (un h) hN).bk hS.lt (bk_alloc r W _)),(fun h=>J.f7 (un h)),(fun h=>J.f8 (un h)),(fun h=>J.f9 (un h)),(by rw [upd_ne rfl];exact J.rd.alloc _),(fun _=>hS.on (bk_alloc r W _)),(fun h=>absurd (hN.symm.trans (un h)) (by simp))⟩⟩
     ·skip
      have hN:L 10=false:=(hcl 10 7 (by kernel_rfl) (hcl 7 6 (by kernel_rfl) (hcl 6 5 (by kernel_rfl) (hcl 5 4 (by kernel_rfl) hLi))))
      have hS:=J.st hN
      go_simp
      exact hK _ _ ⟨_,_,_,_,_,_,_,_,_,_,rfl,⟨(fun h=>J.f0 (un h)),(fun h=>J.f1 (un h)),(fun h=>J.f2 (un h)),(fun h _=>J.f3 (un h) hN),(fun _=>rfl),(fun h=>J.f5 (un h)),(fun h _=>J.f6 (un h) hN),(fun h=>J.f7 (un h)),(fun h=>J.f8 (un h)),(fun h=>J.f9 (un h)),(by rw [upd_ne rfl];exact J.rd),(fun _=>hS),(fun h=>absurd (hN.symm.trans (un h)) (by simp))⟩⟩
     ·skip
      have hN:L 10=false:=(hcl 10 7 (by kernel_rfl) (hcl 7 6 (by kernel_rfl) (hcl 6 5 (by kernel_rfl) hLi)))
      have hS:=J.st hN
      have hR0:Rd W r B1:=by have h:=J.rd;rw [if_neg (by rw [hLi];simp)] at h;exact h
      obtain rfl:=J.f4 (haft ⟨4,.data⟩ (by simp) rfl)
      go_simp
      go_wp2_with (go_at_call 34;refine (pick_any r _ _ _ hR0 (by omega)).mono ?_;rintro e W2 ⟨k,rfl,hk,hR,hb⟩)
      have hk2:=hk (by omega)
      exact ⟨_,_,_,_,_,_,_,_,_,_,rfl,⟨(fun h=>J.f0 (un h)),(fun h=>J.f1 (un h)),(fun h=>J.f2 (un h)),(fun h _=>(J.f3 (un h) hN).bk hS.lt hb),(fun h=>J.f4 (un h)),(fun _=>⟨k,rfl,by omega,by omega⟩),(fun h _=>(J.f6 (un h) hN).bk hS.lt hb),(fun h=>J.f7 (un h)),(fun h=>J.f8 (un h)),(fun h=>J.f9 (un h)),(by rw [if_pos upd_self];exact hR),(fun _=>hS.on hb),(fun h=>absurd (hN.symm.trans (un h)) (by simp))⟩⟩
     ·skip
      have hN:L 10=false:=(hcl 10 7 (by kernel_rfl) (hcl 7 6 (by kernel_rfl) hLi))
      have hS:=J.st hN
      obtain ⟨g1,arr,rfl,hg,rfl⟩:=J.f3 (haft ⟨3,.data⟩ (by simp) rfl) hN
      obtain ⟨k,rfl,k0,k1⟩:=J.f5 (haft ⟨5,.data⟩ (by simp) rfl)
      have k2:k < 2:=by omega
      obtain ⟨v,hv⟩:=gl2 1 9223372036854775807 (by unfold I64;omega) (by unfold I64;omega) k k0 k2
      go_simp
      exact hK _ _ ⟨_,_,_,_,_,_,_,_,_,_,rfl,⟨(fun h=>J.f0 (un h)),(fun h=>J.f1 (un h)),(fun h=>J.f2 (un h)),(fun h _=>J.f3 (un h) hN),(fun h=>J.f4 (un h)),(fun h=>J.f5 (un h)),(fun _ _=>⟨g1,k.toNat,_,rfl,hg,v,hv⟩),(fun h=>J.f7 (un h)),(fun h=>J.f8 (un h)),(fun h=>J.f9 (un h)),(by rw [upd_ne rfl];exact J.rd),(fun _=>hS),(fun h=>absurd (hN.symm.trans (un h)) (by simp))⟩⟩
     ·skip
      have hN:L 10=false:=(hcl 10 7 (by kernel_rfl) hLi)
      have hS:=J.st hN
      obtain ⟨g1,k,arr,rfl,hg,v,hv,v0⟩:=J.f6 (haft ⟨6,.data⟩ (by simp) rfl) hN
      have hc:W.cell? ⟨g1,k,none⟩=some (.int .i64 v):=(cellB hg.2).trans hv
      go_simp
      exact hK _ _ ⟨_,_,_,_,_,_,_,_,_,_,rfl,⟨(fun h=>J.f0 (un h)),(fun h=>J.f1 (un h)),(fun h=>J.f2 (un h)),(fun h _=>J.f3 (un h) hN),(fun h=>J.f4 (un h)),(fun h=>J.f5 (un h)),(fun h _=>J.f6 (un h) hN),(fun _=>⟨v,rfl,v0⟩),(fun h=>J.f8 (un h)),(fun h=>J.f9 (un h)),(by rw [upd_ne rfl];exact J.rd),(fun _=>hS),(fun h=>absurd (hN.symm.trans (un h)) (by simp))⟩⟩
     ·skip
      have hN:L 10=false:=(hcl 10 9 (by kernel_rfl) (hcl 9 8 (by kernel_rfl) hLi))
      have hS:=J.st hN
      obtain rfl:=J.f1 (haft ⟨1,.data⟩ (by simp) rfl)
      obtain rfl:=J.f2 (haft ⟨2,.data⟩ (by simp) rfl)
      go_simp
      exact hK _ _ ⟨_,_,_,_,_,_,_,_,_,_,rfl,⟨(fun h=>J.f0 (un h)),(fun h=>J.f1 (un h)),(fun h=>J.f2 (un h)),(fun h _=>J.f3 (un h) hN),(fun h=>J.f4 (un h)),(fun h=>J.f5 (un h)),(fun h _=>J.f6 (un h) hN),(fun h=>J.f7 (un h)),(fun _=>rfl),(fun h=>J.f9 (un h)),(by rw [upd_ne rfl];exact J.rd),(fun _=>hS),(fun h=>absurd (hN.symm.trans (un h)) (by simp))⟩⟩
     ·skip
      have hN:L 10=false:=(hcl 10 9 (by kernel_rfl) hLi)
      have hS:=J.st hN
      obtain rfl:=J.f8 (haft ⟨8,.data⟩ (by simp) rfl)
      go_simp
      exact hK _ _ ⟨_,_,_,_,_,_,_,_,_,_,rfl,⟨(fun h=>J.f0 (un h)),(fun h=>J.f1 (un h)),(fun h=>J.f2 (un h)),(fun h _=>J.f3 (un h) hN),(fun h=>J.f4 (un h)),(fun h=>J.f5 (un h)),(fun h _=>J.f6 (un h) hN),(fun h=>J.f7 (un h)),(fun h=>J.f8 (un h)),(fun _=>rfl),(by rw [upd_ne rfl];exact J.rd),(fun _=>hS),(fun h=>absurd (hN.symm.trans (un h)) (by simp))⟩⟩
     ·skip
      have hN:L 10=false:=hLi
      have hS:=J.st hN
      obtain ⟨v,rfl,v0⟩:=J.f7 (haft ⟨7,.data⟩ (by simp) rfl)
      obtain rfl:=J.f9 (haft ⟨9,.data⟩ (by simp) rfl)
      have hc:W.cell? ⟨gg,kk * 5+2,none⟩=some _:=(hS.cel hkn (j:=2) (by decide)).trans (show _=some _ from rfl)
      have hf:=hS.frz (by omega) (kk * 5+2)
      go_simp
      exact hK _ _ ⟨_,_,_,_,_,_,_,_,_,_,rfl,⟨(fun h=>J.f0 (un h)),(fun h=>J.f1 (un h)),(fun h=>J.f2 (un h)),(fun _ h=>absurd (h.symm.trans upd_self) (by simp)),(fun h=>J.f4 (un h)),(fun h=>J.f5 (un h)),(fun _ h=>absurd (h.symm.trans upd_self) (by simp)),(fun h=>J.f7 (un h)),(fun h=>J.f8 (un h)),(fun h=>J.f9 (un h)),(by rw [upd_ne rfl];exact J.rd.set (p:=⟨gg,_,none⟩) (by show r < gg;have:=hS.lt;have:=hS.hg;omega) _),(fun h=>absurd (h.symm.trans upd_self) (by simp)),(fun _=>⟨R,C,_,vq,_,hS.setG (j:=2) (v:=.int .i64 v) hkn (by decide) (y:=⟨(gs.getD kk dG).row,(gs.getD kk dG).col,v,(gs.getD kk dG).cols,(gs.getD kk dG).ins⟩) rfl ⟨⟨hX.1.1,hX.1.2.1,v0,hX.1.2.2.2.1,hX.1.2.2.2.2⟩,hX.2⟩,hI.1,hI.2⟩)⟩⟩
    case hd =>
     intro L act W hJ hall
     obtain ⟨v101,v102,v103,v104,v105,v106,v107,v108,v109,v110,ha,J⟩:=hJ
     subst ha
     have HE:=Hid.intro (J.fin (hall 10 (by simp)))
     have HRd2:=Hid.intro (J.rd.mono (B':=B1+1) (by split <;> omega))
     clear J
     obtain ⟨R2,C2,va2,vq2,gs2,hS2,hI2⟩:=HE.out
     have HE2:=Hid.intro hS2
     clear hS2 HE HS HRd
     have HP:=Hid.intro (HE2.out.post (B:=B) HRd2.out (by omega) (by omega) hI2.1 hI2.2)
     obtain ⟨⟨q0,q1,q2⟩,_⟩:=threeZ HE2.out.gbx
     obtain ⟨⟨z0,z1,z2⟩,y0,y1,y2⟩:=threeZ HE2.out.zbx
     go_wp2
     exact bodyPost_ret (v:=.agg #[.int .i64 R2,.int .i64 C2,.slice va2 _ vq2]) (by simp [results,Try.results33,go_sem,z0,z1,z2]) rfl HP.out
 ·as_aux_lemma =>
   go_upto_region 6 with fail
   obtain ⟨y,hy⟩:∃ y,gs.getD kk dG=y:=⟨_,rfl⟩
   rw [hy] at hX
   have hX:=Hid.intro hX
   have hy:=Hid.intro hy
   clear hwR hwC
   obtain ⟨i0,hi0,hz0,hz1,hz2⟩:=info_parts infoGC
   refine wp_region_inv2 (fun L act W=>∃ v28 v29 v30 v31 v32 v33 v34 v35 v36 v37:Value,act=⟨#[.pointer (some ⟨r,0,none⟩),.int .i64 n,undef,undef,.pointer (some ⟨w.heap.size,0,none⟩),.pointer (some ⟨gb,0,none⟩),.int .i64 (kk:Int),.pointer (some ⟨r,0,none⟩),xt,xg,.pointer (some ⟨r,0,none⟩),.int .i64 n,.int .i64 k2,.bool (decide (0 < k2)),.bool (decide (0 < k2)),.pointer (some ⟨gb,2,none⟩),.slice (some ⟨gg,0,none⟩) n0 vq,.int .i64 (n0:Int),.bool false,.bool (decide (0 < k2)),undef,.pointer (some ⟨r,0,none⟩),.pointer (some ⟨gb,2,none⟩),.slice (some ⟨gg,0,none⟩) n0 vq,.int .i64 (n0:Int),.int .i64 (kk:Int),.pointer (some ⟨r,0,none⟩),.int .i64 5,v28,v29,v30,v31,v32,v33,v34,v35,v36,v37,.bool false,.bool false,undef,undef,undef,undef,undef,undef,undef,undef,undef,.bool false,.bool false,undef,undef,undef,undef,undef,undef,undef,undef,undef,.bool false,.bool false,undef,undef,undef,undef,undef,undef,undef,undef,undef,undef,undef,undef,.bool false,.bool false,undef,undef,undef,undef,undef,undef,undef,undef,undef,undef,undef,undef,undef,.bool false,.bool false,undef,undef,undef,undef,undef,undef,undef,undef,undef,undef,undef,undef,undef,undef,undef,undef,undef,undef,undef,undef,undef],[]⟩∧GrR6 w r gb w.heap.size n0 B0 R C gg vq gs y kk L W v28 v29 v30 v31 v32 v33 v34 v35 v36 v37) hmx (by kernel_rfl) ?hs ?hd ?h0
   case h0=>exact ⟨_,_,_,_,_,_,_,_,_,_,rfl,⟨(fun h=>by cases h),(fun h=>by cases h),(fun h=>by cases h),(fun h=>by cases h),(fun h=>by cases h),(fun h=>by cases h),(fun h=>by cases h),(fun h _=>by cases h),(fun h=>by cases h),HRd.out.drew,(fun _=>HS.out.on (Bk.refl r _).drew),(fun h=>by cases h),(fun h=>by cases h)⟩⟩
   case hs =>
    intro L act W i o hJ hcl ho hLi haft K hK
    obtain ⟨v28,v29,v30,v31,v32,v33,v34,v35,v36,v37,ha,J⟩:=hJ
    subst ha
    have hi':i < 11:=by
     have:=(Array.getElem?_eq_some_iff.1 ho).1
     simpa using this
    rcases (by omega:i=0∨i=1∨i=2∨i=3∨i=4∨i=5∨i=6∨i=7∨i=8∨i=9∨i=10) with rfl | rfl | rfl | rfl | rfl | rfl | rfl | rfl | rfl | rfl | rfl
    all_goals
     simp only [List.getElem?_toArray,List.getElem?_cons_zero,List.getElem?_cons_succ,Option.some.injEq] at ho
     subst ho
     clear hi'
    ·skip
     have hN:L 8=false:=(hcl 8 1 (by kernel_rfl) (hcl 1 0 (by kernel_rfl) hLi))
     have hS:=J.st hN
     go_simp
     exact hK _ _ ⟨_,_,_,_,_,_,_,_,_,_,rfl,⟨(fun _=>rfl),(fun h=>J.f1 (un h)),(fun h=>J.f2 (un h)),(fun h=>J.f3 (un h)),(fun h=>J.f4 (un h)),(fun h=>J.f5 (un h)),(fun h=>J.f6 (un h)),(fun h h2=>J.f7 (un h) (un h2)),(fun h=>J.f9 (un h)),J.rd,(fun h=>J.st (un h)),(fun h _=>absurd (hN.symm.trans (un h)) (by simp)),(fun h=>absurd ((hcl 10 8 (by kernel_rfl) hN).symm.trans (un h)) (by simp))⟩⟩
    ·skip
     have hN:L 8=false:=(hcl 8 1 (by kernel_rfl) hLi)
     have hS:=J.st hN
     obtain rfl:=J.f0 (haft ⟨0,.data⟩ (by simp) rfl)
     have hc:W.cell? ⟨gb,2,none⟩=some (.slice (some ⟨gg,0,none⟩) n0 vq):=cellB hS.gbx
     go_simp
     exact hK _ _ ⟨_,_,_,_,_,_,_,_,_,_,rfl,⟨(fun h=>J.f0 (un h)),(fun _=>rfl),(fun h=>J.f2 (un h)),(fun h=>J.f3 (un h)),(fun h=>J.f4 (un h)),(fun h=>J.f5 (un h)),(fun h=>J.f6 (un h)),(fun h h2=>J.f7 (un h) (un h2)),(fun h=>J.f9 (un h)),J.rd,(fun h=>J.st (un h)),(fun h _=>absurd (hN.symm.trans (un h)) (by simp)),(fun h=>absurd ((hcl 10 8 (by kernel_rfl) hN).symm.trans (un h)) (by simp))⟩⟩
    ·skip
     have hN:L 8=false:=(hcl 8 7 (by kernel_rfl) (hcl 7 6 (by kernel_rfl) (hcl 6 5 (by kernel_rfl) (hcl 5 3 (by kernel_rfl) (hcl 3 2 (by kernel_rfl) hLi)))))
     have hS:=J.st hN
     go_simp
     exact hK _ _ ⟨_,_,_,_,_,_,_,_,_,_,rfl,⟨(fun h=>J.f0 (un h)),(fun h=>J.f1 (un h)),(fun _=>rfl),(fun h=>J.f3 (un h)),(fun h=>J.f4 (un h)),(fun h=>J.f5 (un h)),(fun h=>J.f6 (un h)),(fun h h2=>J.f7 (un h) (un h2)),(fun h=>J.f9 (un h)),J.rd,(fun h=>J.st (un h)),(fun h _=>absurd (hN.symm.trans (un h)) (by simp)),(fun h=>absurd ((hcl 10 8 (by kernel_rfl) hN).symm.trans (un h)) (by simp))⟩⟩
    ·skip
     have hN:L 8=false:=(hcl 8 7 (by kernel_rfl) (hcl 7 6 (by kernel_rfl) (hcl 6 5 (by kernel_rfl) (hcl 5 3 (by kernel_rfl) hLi))))
     have hS:=J.st hN
     obtain rfl:=J.f2 (haft ⟨2,.data⟩ (by simp) rfl)
     have hc:W.cell? ⟨gb,2,none⟩=some (.slice (some ⟨gg,0,none⟩) n0 vq):=cellB hS.gbx
     go_simp
     exact hK _ _ ⟨_,_,_,_,_,_,_,_,_,_,rfl,⟨(fun h=>J.f0 (un h)),(fun h=>J.f1 (un h)),(fun h=>J.f2 (un h)),(fun _=>rfl),(fun h=>J.f4 (un h)),(fun h=>J.f5 (un h)),(fun h=>J.f6 (un h)),(fun h h2=>J.f7 (un h) (un h2)),(fun h=>J.f9 (un h)),J.rd,(fun h=>J.st (un h)),(fun h _=>absurd (hN.symm.trans (un h)) (by simp)),(fun h=>absurd ((hcl 10 8 (by kernel_rfl) hN).symm.trans (un h)) (by simp))⟩⟩
    ·skip
     have hN:L 8=false:=(hcl 8 7 (by kernel_rfl) (hcl 7 6 (by kernel_rfl) (hcl 6 5 (by kernel_rfl) (hcl 5 4 (by kernel_rfl) hLi))))
     have hS:=J.st hN
     go_simp
     exact hK _ _ ⟨_,_,_,_,_,_,_,_,_,_,rfl,⟨(fun h=>J.f0 (un h)),(fun h=>J.f1 (un h)),(fun h=>J.f2 (un h)),(fun h=>J.f3 (un h)),(fun _=>rfl),(fun h=>J.f5 (un h)),(fun h=>J.f6 (un h)),(fun h h2=>J.f7 (un h) (un h2)),(fun h=>J.f9 (un h)),J.rd,(fun h=>J.st (un h)),(fun h _=>absurd (hN.symm.trans (un h)) (by simp)),(fun h=>absurd ((hcl 10 8 (by kernel_rfl) hN).symm.trans (un h)) (by simp))⟩⟩
    ·skip
     have hN:L 8=false:=(hcl 8 7 (by kernel_rfl) (hcl 7 6 (by kernel_rfl) (hcl 6 5 (by kernel_rfl) hLi)))
     have hS:=J.st hN
     obtain rfl:=J.f3 (haft ⟨3,.data⟩ (by simp) rfl)
     obtain rfl:=J.f4 (haft ⟨4,.data⟩ (by simp) rfl)
     go_simp
     exact hK _ _ ⟨_,_,_,_,_,_,_,_,_,_,rfl,⟨(fun h=>J.f0 (un h)),(fun h=>J.f1 (un h)),(fun h=>J.f2 (un h)),(fun h=>J.f3 (un h)),(fun h=>J.f4 (un h)),(fun _=>rfl),(fun h=>J.f6 (un h)),(fun h h2=>J.f7 (un h) (un h2)),(fun h=>J.f9 (un h)),J.rd,(fun h=>J.st (un h)),(fun h _=>absurd (hN.symm.trans (un h)) (by simp)),(fun h=>absurd ((hcl 10 8 (by kernel_rfl) hN).symm.trans (un h)) (by simp))⟩⟩
    ·skip
     have hN:L 8=false:=(hcl 8 7 (by kernel_rfl) (hcl 7 6 (by kernel_rfl) hLi))
     have hS:=J.st hN
     obtain rfl:=J.f5 (haft ⟨5,.data⟩ (by simp) rfl)
     have hc0:W.cell? ⟨gg,kk * 5,none⟩=some (.int .i64 y.row):=by have h9:=hS.cel hkn (j:=0) (by decide);rw [hy.out] at h9;exact h9
     have hc1:W.cell? ⟨gg,kk * 5+1,none⟩=some (.int .i64 y.col):=by have h9:=hS.cel hkn (j:=1) (by decide);rw [hy.out] at h9;exact h9
     have hc2:W.cell? ⟨gg,kk * 5+2,none⟩=some (.int .i64 y.rows):=by have h9:=hS.cel hkn (j:=2) (by decide);rw [hy.out] at h9;exact h9
     have hc3:W.cell? ⟨gg,kk * 5+3,none⟩=some (.int .i64 y.cols):=by have h9:=hS.cel hkn (j:=3) (by decide);rw [hy.out] at h9;exact h9
     have hc4:W.cell? ⟨gg,kk * 5+4,none⟩=some (.int .i64 y.ins):=by have h9:=hS.cel hkn (j:=4) (by decide);rw [hy.out] at h9;exact h9
     go_simp
     exact hK _ _ ⟨_,_,_,_,_,_,_,_,_,_,rfl,⟨(fun h=>J.f0 (un h)),(fun h=>J.f1 (un h)),(fun h=>J.f2 (un h)),(fun h=>J.f3 (un h)),(fun h=>J.f4 (un h)),(fun h=>J.f5 (un h)),(fun _=>rfl),(fun h h2=>J.f7 (un h) (un h2)),(fun h=>J.f9 (un h)),J.rd,(fun h=>J.st (un h)),(fun h _=>absurd (hN.symm.trans (un h)) (by simp)),(fun h=>absurd ((hcl 10 8 (by kernel_rfl) hN).symm.trans (un h)) (by simp))⟩⟩
    ·skip
     have hN:L 8=false:=(hcl 8 7 (by kernel_rfl) hLi)
     have hS:=J.st hN
     obtain rfl:=J.f6 (haft ⟨6,.data⟩ (by simp) rfl)
     have hsz:=hS.bk.size
     rw [if_pos (by rfl)]
     refine wp_bs1 _ _ rfl _ _ _ rfl (run_bs1 W _ _ _ _ _) ?_
     exact hK _ _ ⟨_,_,_,_,_,_,_,_,_,_,rfl,⟨(fun h=>J.f0 (un h)),(fun h=>J.f1 (un h)),(fun h=>J.f2 (un h)),(fun h=>J.f3 (un h)),(fun h=>J.f4 (un h)),(fun h=>J.f5 (un h)),(fun h=>J.f6 (un h)),(fun _ _=>⟨W.heap.size,_,rfl,Hp.new hsz _,rfl⟩),(fun h=>J.f9 (un h)),J.rd.alloc _,(fun _=>hS.on (bk_alloc r W _)),(fun h _=>absurd (hN.symm.trans (un h)) (by simp)),(fun h=>absurd ((hcl 10 8 (by kernel_rfl) hN).symm.trans (un h)) (by simp))⟩⟩
    ·skip
     have hN:L 8=false:=hLi
     have hS:=J.st hN
     obtain rfl:=J.f1 (haft ⟨1,.data⟩ (by simp) rfl)
     obtain ⟨g1,arr,rfl,hg,rfl⟩:=J.f7 (haft ⟨7,.data⟩ (by simp) rfl) hN
     rw [if_pos (by rfl)]
     refine wp_append_own _ _ _ 23 rfl w.heap.size 29 i0 _ 5 40 Try.underlying23 hi0 hz0 hz1 hz2 rfl (by decide) _ n0 _ rfl hS.own ⟨g1,0,none⟩ 1 1 (gcVs y) rfl rfl (news_at hg.2) (by simp [gcVs,Value.oneCell']) (by unfold maxLen;omega) (by omega) hS.bk.size ?_
     intro v' W2 hown2 hg2 _
     exact hK _ _ ⟨_,_,_,_,_,_,_,_,_,_,rfl,⟨(fun h=>J.f0 (un h)),(fun h=>J.f1 (un h)),(fun h=>J.f2 (un h)),(fun h=>J.f3 (un h)),(fun h=>J.f4 (un h)),(fun h=>J.f5 (un h)),(fun h=>J.f6 (un h)),(fun _ h=>absurd (h.symm.trans upd_self) (by simp)),(fun h=>J.f9 (un h)),hS.rdApp (by omega) J.rd hg2,(fun h=>absurd (h.symm.trans upd_self) (by simp)),(fun _ _=>hS.app (by omega) hX.out hown2 hg2),(fun h=>absurd ((hcl 10 8 (by kernel_rfl) hN).symm.trans (un h)) (by simp))⟩⟩
    ·skip
     go_simp
     exact hK _ _ ⟨_,_,_,_,_,_,_,_,_,_,rfl,⟨(fun h=>J.f0 (un h)),(fun h=>J.f1 (un h)),(fun h=>J.f2 (un h)),(fun h=>J.f3 (un h)),(fun h=>J.f4 (un h)),(fun h=>J.f5 (un h)),(fun h=>J.f6 (un h)),(fun h h2=>J.f7 (un h) (un h2)),(fun _=>rfl),J.rd,(fun h=>J.st (un h)),(fun h h2=>J.ap (un h) (un h2)),(fun h=>J.fin (un h))⟩⟩
    ·skip
     have hT:L 8=true:=(haft ⟨8,.data⟩ (by simp) rfl)
     have hA:=J.ap hT hLi
     obtain rfl:=J.f9 (haft ⟨9,.data⟩ (by simp) rfl)
     obtain ⟨a2,c2,rfl,_⟩:=row_form hA.own
     have hc:W.cell? ⟨gb,2,none⟩=some (.slice (some ⟨gg,0,none⟩) n0 vq):=cellB hA.gbx
     have hf:W.frozen? ⟨gb,2,none⟩=false:=freeB hA.gbx
     go_simp
     exact hK _ _ ⟨_,_,_,_,_,_,_,_,_,_,rfl,⟨(fun h=>J.f0 (un h)),(fun h=>J.f1 (un h)),(fun h=>J.f2 (un h)),(fun h=>J.f3 (un h)),(fun h=>J.f4 (un h)),(fun h=>J.f5 (un h)),(fun h=>J.f6 (un h)),(fun _ h=>absurd (hT.symm.trans (un h)) (by simp)),(fun h=>J.f9 (un h)),J.rd.set (p:=⟨gb,2,none⟩) (by show r < gb;omega) _,(fun h=>absurd (hT.symm.trans (un h)) (by simp)),(fun _ h=>absurd (h.symm.trans upd_self) (by simp)),(fun _=>⟨_,_,_,_,_,hA.put,hI.1,hI.2⟩)⟩⟩
   case hd =>
    intro L act W hJ hall
    obtain ⟨v28,v29,v30,v31,v32,v33,v34,v35,v36,v37,ha,J⟩:=hJ
    subst ha
    have HE:=Hid.intro (J.fin (hall 10 (by simp)))
    have HRd2:=Hid.intro J.rd
    clear J
    obtain ⟨R2,C2,va2,vq2,gs2,hS2,hI2⟩:=HE.out
    have HE2:=Hid.intro hS2
    clear hS2 HE HS HRd
    have HP:=Hid.intro (HE2.out.post (B:=B) HRd2.out (by omega) (by omega) hI2.1 hI2.2)
    obtain ⟨⟨q0,q1,q2⟩,_⟩:=threeZ HE2.out.gbx
    obtain ⟨⟨z0,z1,z2⟩,y0,y1,y2⟩:=threeZ HE2.out.zbx
    go_wp2
    exact bodyPost_ret (v:=.agg #[.int .i64 R2,.int .i64 C2,.slice va2 _ vq2]) (by simp [results,Try.results33,go_sem,z0,z1,z2]) rfl HP.out
end Go.Proofs.Ytggmjiddadjilaj
