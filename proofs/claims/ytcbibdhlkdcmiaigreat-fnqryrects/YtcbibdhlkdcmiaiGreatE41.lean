/-
  PROVED HERE: the model's l10Rect: where a cell is, by how wide columns and how high rows are; nothing that was in memory is turned. Also: 1 more texts of the same proof.
-/
import Derived.Test.YtcbibdhlkdcmiaiGreatE36
import Derived.Test.YtcbibdhlkdcmiaiGreatE39
import Derived.Test.YtcbibdhlkdcmiaiGreatE31
import Derived.Test.YtcbibdhlkdcmiaiGreatC25
import Derived.Test.YtcbibdhlkdcmiaiGreatC30
import Derived.Test.YtcbibdhlkdcmiaiGreatC33
import Derived.Test.YtcbibdhlkdcmiaiGreatC35
import Derived.Test.YtcbibdhlkdcmiaiGreatC16
import Derived.Test.YtcbibdhlkdcmiaiGreatC34
import Derived.Test.YtcbibdhlkdcmiaiGreatC32
import Derived.Deep.DeepCutAuto
import Derived.Deep.RegionWith
import Derived.Deep.QuietTactic
import Derived.BigQuiet
namespace Go.Proofs.YtcbibdhlkdcmiaiGreat
open Go.RowKit Go.BigFrame
theorem fourF {w:World} {g:Nat} {x0 x1 x2 x3:Value} {t:TypeId} (h:w.heap[g]?=some (.cells #[x0,x1,x2,x3] t)) :
  (w.cell? ⟨g,0,none⟩=some x0∧w.cell? ⟨g,1,none⟩=some x1∧w.cell? ⟨g,2,none⟩=some x2∧w.cell? ⟨g,3,none⟩=some x3)∧∀ p,w.frozen? ⟨g,p,none⟩=false :=
 ⟨⟨cellB h,cellB h,cellB h,cellB h⟩,fun _=>freeB h⟩
theorem sub_sum {l:List Int} (a m:Nat):(subL l a m).sum=sumTo l (a+m) - sumTo l a:=by
 rw [sumTo,sumTo,List.take_add,List.sum_append,subL]
 omega
theorem at_rows {l:List Int} (h:∀ x ∈ l,0≤x∧x≤1000) (hl:l.length≤88) {a:Nat} (ha:a≤l.length):atV l 0 (a:Int)=sumTo l a:=by
 have hs:=sumTo_small h a
 unfold atV
 rw [aheadN_nat l ha,Int.zero_mul,Int.add_zero,W_small (by omega)]
theorem small_wt {l:List Int} (h:∀ x ∈ l,0≤x∧x≤1000):l.all wtB=true:=by
 rw [List.all_eq_true]
 intro x hx
 have:=h x hx
 unfold wtB
 exact decide_eq_true (by omega)
set_option maxRecDepth 100000 in
set_option maxHeartbeats 4000000 in
theorem specl10Rect (ac ar al:Option Addr) (cc cr cl:Nat) (t:T) (a m:Nat) (xc xs xi:Int) (hxo:GOk ⟨(a:Int),xc,(m:Int),xs,xi⟩) (l rs:List Int) (hl1:l.length≤1048576) (g cap:Nat) (hs:∀ x ∈ rs,0≤x∧x≤1000) (hl8:rs.length≤8) (hm:1≤m) (ham:a+m≤rs.length) (w:World) {B D:Nat} (hI:IntsAt w (.slice al l.length cl) l) (hR:RowI w B D (.slice (some ⟨g,0,none⟩) rs.length cap) rs) :
  Calls Tryz.prog 50 #[.agg #[.slice ac t.cols.length cc,.int .i64 t.head,.int .i64 t.foot,.slice ar t.rows.length cr,.int .i64 t.gap],.agg #[.int .i64 (a:Int),.int .i64 xc,.int .i64 (m:Int),.int .i64 xs,.int .i64 xi],.slice al l.length cl,.slice (some ⟨g,0,none⟩) rs.length cap] w fun e w'=>e=.returned (.agg #[.int .i64 (rectOf t l rs ⟨(a:Int),xc,(m:Int),xs,xi⟩).x,.int .i64 (rectOf t l rs ⟨(a:Int),xc,(m:Int),xs,xi⟩).y,.int .i64 (rectOf t l rs ⟨(a:Int),xc,(m:Int),xs,xi⟩).w,.int .i64 (rectOf t l rs ⟨(a:Int),xc,(m:Int),xs,xi⟩).h])∧Below w.heap.size w w':=by
 have hmx:Tryz.prog.follows .mixedOrders=true:=by kernel_rfl
 have hst:=sumTo_small hs
 have ey:(rectOf t l rs ⟨(a:Int),xc,(m:Int),xs,xi⟩).y=(rs.take a).sum:=at_rows hs (by omega) (by omega)
 have eh:(rectOf t l rs ⟨(a:Int),xc,(m:Int),xs,xi⟩).h=(subL rs a m).sum:=by
  rw [sub_sum]
  exact high_span (x:=⟨(a:Int),xc,(m:Int),xs,xi⟩) rfl rfl hm ham (by have:=hst (a+m);have:=hst a;omega)
 rw [ey,eh]
 clear ey eh
 have hcap:rs.length≤cap∧cap≤maxLen:=by
  obtain ⟨g',cap',e,_,_,_,h1,h2,_⟩:=hR.get (i:=0) (by omega)
  simp only [Value.slice.injEq,Option.some.injEq,Addr.mk.injEq,and_true,true_and] at e
  omega
 unfold maxLen at hcap
 obtain ⟨W0,hW0⟩:∃ W0,((w.alloc (.cells #[.slice ac t.cols.length cc,.int .i64 t.head,.int .i64 t.foot,.slice ar t.rows.length cr,.int .i64 t.gap] 33)).alloc (.cells #[.int .i64 (a:Int),.int .i64 xc,.int .i64 (m:Int),.int .i64 xs,.int .i64 xi] 59)).alloc (.cells #[.int .i64 0,.int .i64 0,.int .i64 0,.int .i64 0] 50)=W0:=⟨_,rfl⟩
 have hs0:W0.heap.size=w.heap.size+3:=by rw [← hW0];simp
 have K0:Below w.heap.size w W0:=by rw [← hW0];exact k_alloc (k_alloc (k_alloc (Below.refl _ _) _) _) _
 have X0:W0.heap[w.heap.size]?=some (.cells #[.slice ac t.cols.length cc,.int .i64 t.head,.int .i64 t.foot,.slice ar t.rows.length cr,.int .i64 t.gap] 33):=by
  rw [← hW0]
  exact (Below.heap_alloc _ _ _ (by simp;omega)).trans ((Below.heap_alloc _ _ _ (by simp)).trans (newestB _ _))
 have X1:W0.heap[w.heap.size+1]?=some (.cells #[.int .i64 (a:Int),.int .i64 xc,.int .i64 (m:Int),.int .i64 xs,.int .i64 xi] 59):=by
  rw [← hW0]
  refine (Below.heap_alloc _ _ _ (by simp)).trans ?_
  have:=newestB (w.alloc (.cells #[.slice ac t.cols.length cc,.int .i64 t.head,.int .i64 t.foot,.slice ar t.rows.length cr,.int .i64 t.gap] 33)) (.cells #[.int .i64 (a:Int),.int .i64 xc,.int .i64 (m:Int),.int .i64 xs,.int .i64 xi] 59)
  simpa using this
 have X2:W0.heap[w.heap.size+1+1]?=some (.cells #[.int .i64 0,.int .i64 0,.int .i64 0,.int .i64 0] 50):=by
  rw [← hW0]
  have:=newestB ((w.alloc (.cells #[.slice ac t.cols.length cc,.int .i64 t.head,.int .i64 t.foot,.slice ar t.rows.length cr,.int .i64 t.gap] 33)).alloc (.cells #[.int .i64 (a:Int),.int .i64 xc,.int .i64 (m:Int),.int .i64 xs,.int .i64 xi] 59)) (.cells #[.int .i64 0,.int .i64 0,.int .i64 0,.int .i64 0] 50)
  simpa using this
 have HI:=Hd (hI.kept K0)
 have HR:=Hd (hR.kept (w':=W0) (fun j h0 _ _=>K0.block j h0))
 have HX2:=Hd X2
 have HK0:=Hd K0
 have hne:=bw_some W0
 have hl0:w.heap.size < W0.heap.size:=by omega
 have hl1':w.heap.size+1 < W0.heap.size:=by omega
 have m0:=bw_cell (a:=⟨w.heap.size,4,none⟩) hl0 (cellB (p:=4) X0)
 have m1:=bw_cell (a:=⟨w.heap.size+1,0,none⟩) hl1' (cellB (p:=0) X1)
 have m2:=bw_cell (a:=⟨w.heap.size+1,1,none⟩) hl1' (cellB (p:=1) X1)
 have m3:=bw_cell (a:=⟨w.heap.size+1,2,none⟩) hl1' (cellB (p:=2) X1)
 have m4:=bw_cell (a:=⟨w.heap.size+1,3,none⟩) hl1' (cellB (p:=3) X1)
 have m5:=bw_cell (a:=⟨w.heap.size+1,4,none⟩) hl1' (cellB (p:=4) X1)
 have KX:=Hd (fun (p:BW W0)=>bw_same (specWidAt _ l t.gap xc p.u (HI.out.kept p.h)))
 have KW:=Hd (fun (p:BW W0)=>bw_of (specWidCell _ l hl1 t.gap ⟨(a:Int),xc,(m:Int),xs,xi⟩ hxo p.u (HI.out.kept p.h)))
 have HT:=Hd (HR.out.at.take (m:=a) (by omega))
 have HU:=Hd (HR.out.sub0 (c:=a) (m:=m) ham)
 have KY:=Hd (fun (p:BW W0)=>bw_same (specl1Sum_any _ (rs.take a) (by rw [List.length_take];omega) (small_wt (fun x hx=>hs x (List.mem_of_mem_take hx))) p.u (HT.out.kept p.h)))
 have KZ:=Hd (fun (p:BW W0)=>bw_same (specl1Sum_any _ (subL rs a m) (by rw [subL_len ham];omega) (small_wt (fun x hx=>hs x (subL_mem hx))) p.u (HU.out.kept p.h)))
 have eX:(rectOf t l rs ⟨(a:Int),xc,(m:Int),xs,xi⟩).x=atV l t.gap xc:=rfl
 have eW:(rectOf t l rs ⟨(a:Int),xc,(m:Int),xs,xi⟩).w=cellV l t.gap ⟨(a:Int),xc,(m:Int),xs,xi⟩:=rfl
 rw [eX,eW]
 clear eX eW
 generalize atV l t.gap xc=qx at KX ⊢
 generalize cellV l t.gap ⟨(a:Int),xc,(m:Int),xs,xi⟩=qw at KW ⊢
 generalize (rs.take a).sum=qy at KY ⊢
 generalize (subL rs a m).sum=qh at KZ ⊢
 have t1:(a:Int)≤(a:Int)+(m:Int):=by omega
 have t2:(a:Int)+(m:Int)≤(cap:Int):=by omega
 have t3:(a:Int)≤(cap:Int):=by omega
 have t4:¬ cap=a:=by omega
 have t5:((a:Int)+(m:Int)).toNat=a+m:=by omega
 have t6:¬ (a+m < a):=by omega
 have t7:a+m - a=m:=by omega
 clear hI hR hst X0 X1 X2 K0 HI HR HT HU hs hxo
 go_enter Tryz.func50,Tryz.ntmps50
 go_upto_region 1 with fail
 clear hW0
 refine wp_region_last 27 hmx (by rfl) (by rfl) (by kernel_rfl) (by kernel_rfl) ?_
 simp only [List.take_succ_cons,List.take_zero]
 repeat (go_big_quiet_step (first | (go_at_call_of 88 (m:Nat);refine KZ.out _) | (go_at_call 88;refine KY.out _) | (go_at_call 98;refine KX.out _) | (go_at_call 97;refine KW.out _)))
 refine wpQuiet_nil ?_
 intro W7 hw'
 obtain ⟨⟨Wx,hW7⟩,hw''⟩:=hw'
 subst hw''
 have X7:=(hW7.block (w.heap.size+1+1) (by omega)).trans HX2.out
 have HB7:=Hd (k_trans HK0.out hW7)
 obtain ⟨⟨o0,o1,o2,o3⟩,of⟩:=fourF X7
 have of0:=of 0
 have of1:=of 1
 have of2:=of 2
 have of3:=of 3
 have Y7:=HX2.out
 clear m0 m1 m2 m3 m4 m5 hne KX KY KW KZ hW7 X7 of HX2 Y7
 rw [if_pos (by rfl)]
 go_simp
 go_wp2
 refine bodyPost_ret (v:=.agg #[.int .i64 qx,.int .i64 qy,.int .i64 qw,.int .i64 qh]) (by simp [results,Tryz.results50,go_sem,o0,o1,o2,o3]) rfl ⟨rfl,?_⟩
 exact k_set (k_set (k_set (k_set HB7.out (p:=⟨w.heap.size+1+1,0,none⟩) (by show w.heap.size≤w.heap.size+1+1;omega) _) (p:=⟨w.heap.size+1+1,1,none⟩) (by show w.heap.size≤w.heap.size+1+1;omega) _) (p:=⟨w.heap.size+1+1,2,none⟩) (by show w.heap.size≤w.heap.size+1+1;omega) _) (p:=⟨w.heap.size+1+1,3,none⟩) (by show w.heap.size≤w.heap.size+1+1;omega) _
structure L7J (w W1 W3:World) (BB:Nat) (ac ar ag:Option Addr) (cc cr cg:Nat) (t:T) (x:GC) (U:Value) (us:List Value) (ls:List (List ByteArray)) (lns:List ByteArray) (s:ByteArray) (q:Int) (va:Value) (k tb gb cb b off:Nat) (L:Nat→Bool) (W:World) (v7 v17 v18 v19 v20 v21 v22 v23 v24 v25 v26 v27 v28 v29 v30 v31 v32 v33 v34 v35 v36:Value):Prop where
 f0:L 0=true→v17=U
 f1:L 1=true→v18=.agg #[.slice ac t.cols.length cc,.int .i64 t.head,.int .i64 t.foot,.slice ar t.rows.length cr,.int .i64 t.gap]
 f2:L 2=true→v19=.pointer (some ⟨gb,2,none⟩)
 f3:L 3=true→v20=.slice (some ⟨b,off,none⟩) (gOf t).cells.length cg
 f4:L 4=true→v21=.int .i64 (k:Int)
 f5:L 5=true→v22=.pointer (some ⟨b,off+k * 5,none⟩)
 f6:L 6=true→v23=.agg #[.int .i64 x.row,.int .i64 x.col,.int .i64 x.rows,.int .i64 x.cols,.int .i64 x.ins]
 f7:L 7=true→v24=.string s
 f8:L 8=true→v25=va
 f9:L 9=true→v26=.pointer (some ⟨tb,4,none⟩)
 f10:L 10=true→v27=.int .i64 t.gap
 f11:L 11=true→v28=.pointer (some ⟨gb,2,none⟩)
 f12:L 12=true→v29=.slice (some ⟨b,off,none⟩) (gOf t).cells.length cg
 f13:L 13=true→v30=.int .i64 (k:Int)
 f14:L 14=true→v31=.pointer (some ⟨b,off+k * 5,none⟩)
 f15:L 15=true→v32=.agg #[.int .i64 x.row,.int .i64 x.col,.int .i64 x.rows,.int .i64 x.cols,.int .i64 x.ins]
 f16:L 16=true→v33=.int .i64 q
 f17:L 17=true→L 19=false→RowS W BB v34 lns
 f18:L 18=true→∃ g,v35=.slice (some ⟨g,0,none⟩) 1 1∧(L 19=false→W.cell? ⟨g,0,none⟩=some v34)
 fA:L 20=true→v7=v36
 nA:L 20=false→v7=U
 b4:L 19=false→Below W3.heap.size W3 W
 bel:Below W1.heap.size W1 W
 ownA:L 19=true→W.ownsRow BB 100 1 v36 (us ++ [v34]).length (us ++ [v34])∧RowSs W BB (us ++ [v34]) (ls ++ [lns])
set_option maxRecDepth 100000 in
set_option maxHeartbeats 4000000 in
theorem specl7Lines (ac ar ag al:Option Addr) (cc cr cg cl n:Nat) (t:T) (hD:Drawn t) (l:List Int) (hl1:l.length≤1048576) (w:World) {z zg:Nat} (hT:TA w z ac ar cc cr t) (hG:GsAt w zg (.slice ag (gOf t).cells.length cg) (gOf t).cells) (hI:IntsAt w (.slice al n cl) l) :
  Calls Tryz.prog 49 #[.agg #[.slice ac t.cols.length cc,.int .i64 t.head,.int .i64 t.foot,.slice ar t.rows.length cr,.int .i64 t.gap],.agg #[.int .i64 (gOf t).rows,.int .i64 (gOf t).cols,.slice ag (gOf t).cells.length cg],.slice al n cl] w fun e w'=>∃ v,e=.returned v∧LlsAt w' w.heap.size v (linesL t l (gOf t).cells)∧Below w.heap.size w w':=by
 have hmx:Tryz.prog.follows .mixedOrders=true:=by kernel_rfl
 obtain ⟨i0,hi0,hz0,hz1,hz2⟩:=info_parts infoSs
 obtain ⟨h40,C,hgc,hC88,hcel⟩:=cel_of hD
 obtain ⟨W1,hW1⟩:∃ W1,w.alloc (.cells #[.slice ac t.cols.length cc,.int .i64 t.head,.int .i64 t.foot,.slice ar t.rows.length cr,.int .i64 t.gap] 33)=W1:=⟨_,rfl⟩
 have hs1:W1.heap.size=w.heap.size+1:=by rw [← hW1];simp
 have K1:Below w.heap.size w W1:=by rw [← hW1];exact k_alloc (Below.refl _ _) _
 have X1:W1.heap[w.heap.size]?=some (.cells #[.slice ac t.cols.length cc,.int .i64 t.head,.int .i64 t.foot,.slice ar t.rows.length cr,.int .i64 t.gap] 33):=by rw [← hW1];exact newestB _ _
 obtain ⟨W2,hW2⟩:∃ W2,W1.alloc (.cells #[.int .i64 (gOf t).rows,.int .i64 (gOf t).cols,.slice ag (gOf t).cells.length cg] 56)=W2:=⟨_,rfl⟩
 have hs2:W2.heap.size=w.heap.size+2:=by rw [← hW2];simp [hs1]
 have K2:Below w.heap.size w W2:=by rw [← hW2];exact k_alloc K1 _
 have X2:W2.heap[w.heap.size]?=some (.cells #[.slice ac t.cols.length cc,.int .i64 t.head,.int .i64 t.foot,.slice ar t.rows.length cr,.int .i64 t.gap] 33):=by rw [← hW2];exact (Below.heap_alloc _ _ _ (by omega)).trans X1
 have Y2:W2.heap[w.heap.size+1]?=some (.cells #[.int .i64 (gOf t).rows,.int .i64 (gOf t).cols,.slice ag (gOf t).cells.length cg] 56):=by
  have:=newestB W1 (.cells #[.int .i64 (gOf t).rows,.int .i64 (gOf t).cols,.slice ag (gOf t).cells.length cg] 56)
  rw [hW2,hs1] at this
  exact this
 have HM:=Hd (And.intro (hT.kept K2) (And.intro (hG.kept K2) (And.intro (hI.kept K2) (And.intro X2 Y2))))
 have HK2:=Hd K2
 have HCel:=Hd hcel
 have HLe:=Hd (linesL_len t l (gOf t).cells)
 have HLn:=Hd (fun k (h:k < (gOf t).cells.length)=>linesL_next t l h)
 have HLs:=Hd (linesL_size t l (gOf t).cells)
 have HB0:=Hd (k_alloc (Below.refl W2.heap.size W2) (.cells #[] 100))
 have HO0:Hid ((W2.alloc (.cells #[] 100)).ownsRow W2.heap.size 100 1 (.slice (some ⟨W2.heap.size,0,none⟩) 0 0) ([]:List Value).length []):=World.ownsRow_made (base:=W2.heap.size) (e:=100) (size:=1) W2 #[] 0 (Nat.le_refl _) (Nat.zero_le _) rfl
 clear hT hG hI X1 K1 X2 Y2 K2 hcel hgc hD
 go_enter Tryz.func49,Tryz.ntmps49
 go_upto_region 1 with fail
 clear hW1 hW2 W1 hs1
 have HS2:=Hd hs2
 go_wp2_with fail
 rw [show w.heap.size+1+1=W2.heap.size from hs2.symm]
 clear hs2
 go_loopw [7,8] (fun o i W=>∃ (k:Nat) (us:List Value),i=.int .i64 k∧k≤(gOf t).cells.length∧Hid (W.ownsRow W2.heap.size 100 1 o us.length us)∧Hid (RowSs W W2.heap.size us ((linesL t l (gOf t).cells).take k))∧Hid (Below W2.heap.size W2 W)) (fun _ i _=>(gOf t).cells.length - (intOf i).toNat)
 case atStart=>exact ⟨0,[],rfl,Nat.zero_le _,HO0,by rw [List.take_zero];exact RowSs.nil _ _,HB0⟩
 case round =>
  clear HO0 HB0
  obtain ⟨k,us,rfl,hk,HO,HRs,HB1⟩:=hrel
  have X:=Hd ((HB1.out.block w.heap.size (by rw [HS2.out];omega)).trans HM.out.2.2.2.1)
  have Y:=Hd ((HB1.out.block (w.heap.size+1) (by rw [HS2.out];omega)).trans HM.out.2.2.2.2)
  have y2:wr.cell? ⟨w.heap.size+1,2,none⟩=some (.slice ag (gOf t).cells.length cg):=cellB Y.out
  have hyw:w.heap.size+1 < wr.heap.size:=(bL Y.out)
  by_cases hkl:k < (gOf t).cells.length
  case neg =>
   obtain rfl:k=(gOf t).cells.length:=by omega
   rw [← HLe.out,List.take_length] at HRs
   have HF:=Hd (HRs.out.lls HO.out (z:=w.heap.size) (by rw [HS2.out];omega) (by rw [HS2.out];omega) HLs.out)
   have HK:=Hd (HK2.out.trans (HB1.out.mono (by rw [HS2.out];omega)))
   go_wp2
   go_ret
   exact ⟨_,rfl,HF.out,HK.out⟩
  obtain ⟨b,off,cap',e',hc1,hc2,hbl,hx,hxo⟩:=At.get (HM.out.2.1.kept HB1.out) hkl
  simp only [Value.slice.injEq,true_and] at e'
  obtain ⟨rfl,rfl⟩:=e'
  have HNx:=Hd (HLn.out k hkl)
  have HCx:=Hd (HCel.out k hkl)
  generalize (linesL t l (gOf t).cells).take k=ls at HRs HNx
  generalize (gOf t).cells.getD k dG=x at hx hxo HNx HCx
  obtain ⟨x0,x1,x2,x3,x4⟩:=hx
  have hsz:(textOf t x).size≤maxLen:=text_size HCx.out HM.out.1.2
  have HQ:=Hd (cellV_i64 l t.gap x)
  have KT:=Hd (fun W (h:Below wr.heap.size wr W)=>specl5Text ac ar cc cr t x HCx.out W ((HM.out.1.2.kept HB1.out).kept h))
  have KW:=Hd (fun W (h:Below wr.heap.size wr W)=>specWidCell _ l hl1 t.gap x hxo W ((HM.out.2.2.1.kept HB1.out).kept h))
  have KL:=Hd (fun W=>specTxtLines (textOf t x) hsz (cellV l t.gap x) HQ.out W)
  have HNy:Hid ((linesL t l (gOf t).cells).take (k+1)=ls ++ [lnOut (lnSt (cellV l t.gap x) (wordsW (textOf t x)))]):=HNx.out
  clear HNx HQ hsz
  have HNx:=HNy
  clear HNy HCx hxo
  generalize lnOut (lnSt (cellV l t.gap x) (wordsW (textOf t x)))=lns at KL HNx
  generalize cellV l t.gap x=q at KW KL
  generalize textOf t x=s at KT KL
  have HX:Hid (wr.heap[w.heap.size]?=some (.cells #[.slice ac t.cols.length cc,.int .i64 t.head,.int .i64 t.foot,.slice ar t.rows.length cr,.int .i64 t.gap] 33)):=X
  have HY:Hid (wr.heap[w.heap.size+1]?=some (.cells #[.int .i64 (gOf t).rows,.int .i64 (gOf t).cols,.slice (some ⟨b,off,none⟩) (gOf t).cells.length cg] 56)):=Y
  have hlt0:w.heap.size < wr.heap.size:=by omega
  have hlg:=hyw
  have husl:us.length≤40:=by have h1:=HRs.out.1;have h2:=congrArg List.length HNx.out;rw [List.length_append,List.length_take,List.length_singleton] at h2;omega
  have HBs:Hid (∀ {m:Nat},W2.heap.size≤m→W2.heap.size≤m):=fun h=>h
  have HBs2:Hid (∀ {m:Nat},W2.heap.size≤m→W2.heap.size≤m):=fun h=>h
  unfold maxLen at hc2
  clear X Y HCel HLn HLs HLe
  go_upto_region 5 with fail
  refine wp_region_inv2 (fun L act W=>∃ v7 v17 v18 v19 v20 v21 v22 v23 v24 v25 v26 v27 v28 v29 v30 v31 v32 v33 v34 v35 v36:Value,act=⟨#[.agg #[.slice ac t.cols.length cc,.int .i64 t.head,.int .i64 t.foot,.slice ar t.rows.length cr,.int .i64 t.gap],.agg #[.int .i64 (gOf t).rows,.int .i64 (gOf t).cols,.slice (some ⟨b,off,none⟩) (gOf t).cells.length cg],.slice al n cl,.pointer (some ⟨w.heap.size,0,none⟩),.pointer (some ⟨w.heap.size+1,0,none⟩),undef,.slice none 0 0,v7,.int .i64 (k:Int),.slice (some ⟨W2.heap.size,0,none⟩) 0 0,.int .i64 (k:Int),.pointer (some ⟨w.heap.size+1,2,none⟩),.slice (some ⟨b,off,none⟩) (gOf t).cells.length cg,.int .i64 ((gOf t).cells.length:Int),.bool true,u15,u16,v17,v18,v19,v20,v21,v22,v23,v24,v25,v26,v27,v28,v29,v30,v31,v32,v33,v34,v35,v36,undef],[]⟩∧L7J w W2 wr W2.heap.size ac ar (some ⟨b,off,none⟩) cc cr cg t x u7 us ls lns s q (.slice al n cl) k w.heap.size (w.heap.size+1) 0 b off L W v7 v17 v18 v19 v20 v21 v22 v23 v24 v25 v26 v27 v28 v29 v30 v31 v32 v33 v34 v35 v36) hmx (by kernel_rfl) ?hs ?hd ?h0
  case h0=>exact ⟨_,_,_,_,_,_,_,_,_,_,_,_,_,_,_,_,_,_,_,_,_,rfl,⟨(fun h=>by cases h),(fun h=>by cases h),(fun h=>by cases h),(fun h=>by cases h),(fun h=>by cases h),(fun h=>by cases h),(fun h=>by cases h),(fun h=>by cases h),(fun h=>by cases h),(fun h=>by cases h),(fun h=>by cases h),(fun h=>by cases h),(fun h=>by cases h),(fun h=>by cases h),(fun h=>by cases h),(fun h=>by cases h),(fun h=>by cases h),(fun h=>by cases h),(fun h=>by cases h),(fun h=>by cases h),(fun _=>rfl),(fun _=>k_drew (Below.refl _ _)),k_drew HB1.out,(fun h=>by cases h)⟩⟩
  case hd =>
   intro L act W hJ hall
   obtain ⟨v7,v17,v18,v19,v20,v21,v22,v23,v24,v25,v26,v27,v28,v29,v30,v31,v32,v33,v34,v35,v36,ha,J⟩:=hJ
   subst ha
   obtain rfl:=J.fA (hall 20 (by decide))
   obtain ⟨ho5,hr5⟩:=J.ownA (hall 19 (by decide))
   have HO5:=Hd ho5
   have HR5:=Hd hr5
   have HB5:=Hd J.bel
   obtain ⟨g',cap'',rfl⟩:=Joins.ownsRow_form HO5.out (by simp)
   clear J hall ho5 hr5
   go_wp2
   go_roundw
   case rel=>exact ⟨k+1,_,by go_num,by omega,HO5,by rw [HNx.out];exact HR5,HB5⟩
   case measure=>simp [intOf];omega
  case hs =>
   intro L act W i o hJ hcl ho hLi haft K hK
   obtain ⟨v7,v17,v18,v19,v20,v21,v22,v23,v24,v25,v26,v27,v28,v29,v30,v31,v32,v33,v34,v35,v36,ha,J⟩:=hJ
   subst ha
   have hi':i < 21:=by
    have:=(bL ho)
    simpa using this
   rcases (by omega:i=0∨i=1∨i=2∨i=3∨i=4∨i=5∨i=6∨i=7∨i=8∨i=9∨i=10∨i=11∨i=12∨i=13∨i=14∨i=15∨i=16∨i=17∨i=18∨i=19∨i=20) with rfl | rfl | rfl | rfl | rfl | rfl | rfl | rfl | rfl | rfl | rfl | rfl | rfl | rfl | rfl | rfl | rfl | rfl | rfl | rfl | rfl
   all_goals
    simp only [List.getElem?_toArray,List.getElem?_cons_zero,List.getElem?_cons_succ,Option.some.injEq] at ho
    subst ho
    clear hi'
   ·skip
    have hAp:L 19=false:=(hcl 19 0 (by kernel_rfl) hLi)
    have hAs:L 20=false:=(hcl 20 19 (by kernel_rfl) (hcl 19 0 (by kernel_rfl) hLi))
    have B4:=J.b4 hAp
    obtain rfl:=J.nA hAs
    go_simp
    exact hK _ _ ⟨_,_,_,_,_,_,_,_,_,_,_,_,_,_,_,_,_,_,_,_,_,rfl,⟨(fun _=>rfl),(uq J.f1),(uq J.f2),(uq J.f3),(uq J.f4),(uq J.f5),(uq J.f6),(uq J.f7),(uq J.f8),(uq J.f9),(uq J.f10),(uq J.f11),(uq J.f12),(uq J.f13),(uq J.f14),(uq J.f15),(uq J.f16),(fun h h2=>J.f17 (un h) (by rwa [upd_ne rfl] at h2)),(ub J.f18),(uf hAs),(uq J.nA),(fun _=>B4),J.bel,(uf hAp)⟩⟩
   ·skip
    have hAp:L 19=false:=(hcl 19 18 (by kernel_rfl) (hcl 18 17 (by kernel_rfl) (hcl 17 7 (by kernel_rfl) (hcl 7 1 (by kernel_rfl) hLi))))
    have hAs:L 20=false:=(hcl 20 19 (by kernel_rfl) (hcl 19 18 (by kernel_rfl) (hcl 18 17 (by kernel_rfl) (hcl 17 7 (by kernel_rfl) (hcl 7 1 (by kernel_rfl) hLi)))))
    have B4:=J.b4 hAp
    obtain ⟨q0,q1,q2,q3,q4⟩:=fiveO ((B4.block _ hlt0).trans HX.out)
    have hl:=Nat.lt_of_lt_of_le hlt0 B4.size
    go_simp
    exact hK _ _ ⟨_,_,_,_,_,_,_,_,_,_,_,_,_,_,_,_,_,_,_,_,_,rfl,⟨(uq J.f0),(fun _=>rfl),(uq J.f2),(uq J.f3),(uq J.f4),(uq J.f5),(uq J.f6),(uq J.f7),(uq J.f8),(uq J.f9),(uq J.f10),(uq J.f11),(uq J.f12),(uq J.f13),(uq J.f14),(uq J.f15),(uq J.f16),(fun h h2=>J.f17 (un h) (by rwa [upd_ne rfl] at h2)),(ub J.f18),(uf hAs),(uq J.nA),(fun _=>B4),J.bel,(uf hAp)⟩⟩
   ·skip
    have hAp:L 19=false:=(hcl 19 18 (by kernel_rfl) (hcl 18 17 (by kernel_rfl) (hcl 17 7 (by kernel_rfl) (hcl 7 6 (by kernel_rfl) (hcl 6 5 (by kernel_rfl) (hcl 5 3 (by kernel_rfl) (hcl 3 2 (by kernel_rfl) hLi)))))))
    have hAs:L 20=false:=(hcl 20 19 (by kernel_rfl) (hcl 19 18 (by kernel_rfl) (hcl 18 17 (by kernel_rfl) (hcl 17 7 (by kernel_rfl) (hcl 7 6 (by kernel_rfl) (hcl 6 5 (by kernel_rfl) (hcl 5 3 (by kernel_rfl) (hcl 3 2 (by kernel_rfl) hLi))))))))
    have B4:=J.b4 hAp
    go_simp
    exact hK _ _ ⟨_,_,_,_,_,_,_,_,_,_,_,_,_,_,_,_,_,_,_,_,_,rfl,⟨(uq J.f0),(uq J.f1),(fun _=>rfl),(uq J.f3),(uq J.f4),(uq J.f5),(uq J.f6),(uq J.f7),(uq J.f8),(uq J.f9),(uq J.f10),(uq J.f11),(uq J.f12),(uq J.f13),(uq J.f14),(uq J.f15),(uq J.f16),(fun h h2=>J.f17 (un h) (by rwa [upd_ne rfl] at h2)),(ub J.f18),(uf hAs),(uq J.nA),(fun _=>B4),J.bel,(uf hAp)⟩⟩
   ·skip
    have hAp:L 19=false:=(hcl 19 18 (by kernel_rfl) (hcl 18 17 (by kernel_rfl) (hcl 17 7 (by kernel_rfl) (hcl 7 6 (by kernel_rfl) (hcl 6 5 (by kernel_rfl) (hcl 5 3 (by kernel_rfl) hLi))))))
    have hAs:L 20=false:=(hcl 20 19 (by kernel_rfl) (hcl 19 18 (by kernel_rfl) (hcl 18 17 (by kernel_rfl) (hcl 17 7 (by kernel_rfl) (hcl 7 6 (by kernel_rfl) (hcl 6 5 (by kernel_rfl) (hcl 5 3 (by kernel_rfl) hLi)))))))
    have B4:=J.b4 hAp
    obtain ⟨q0,q1,q2⟩:=threeO ((B4.block _ hlg).trans HY.out)
    have hl:=Nat.lt_of_lt_of_le hlg B4.size
    obtain rfl:=J.f2 (haft ⟨2,.data⟩ (by simp) rfl)
    go_simp
    exact hK _ _ ⟨_,_,_,_,_,_,_,_,_,_,_,_,_,_,_,_,_,_,_,_,_,rfl,⟨(uq J.f0),(uq J.f1),(uq J.f2),(fun _=>rfl),(uq J.f4),(uq J.f5),(uq J.f6),(uq J.f7),(uq J.f8),(uq J.f9),(uq J.f10),(uq J.f11),(uq J.f12),(uq J.f13),(uq J.f14),(uq J.f15),(uq J.f16),(fun h h2=>J.f17 (un h) (by rwa [upd_ne rfl] at h2)),(ub J.f18),(uf hAs),(uq J.nA),(fun _=>B4),J.bel,(uf hAp)⟩⟩
   ·skip
    have hAp:L 19=false:=(hcl 19 18 (by kernel_rfl) (hcl 18 17 (by kernel_rfl) (hcl 17 7 (by kernel_rfl) (hcl 7 6 (by kernel_rfl) (hcl 6 5 (by kernel_rfl) (hcl 5 4 (by kernel_rfl) hLi))))))
    have hAs:L 20=false:=(hcl 20 19 (by kernel_rfl) (hcl 19 18 (by kernel_rfl) (hcl 18 17 (by kernel_rfl) (hcl 17 7 (by kernel_rfl) (hcl 7 6 (by kernel_rfl) (hcl 6 5 (by kernel_rfl) (hcl 5 4 (by kernel_rfl) hLi)))))))
    have B4:=J.b4 hAp
    go_simp
    exact hK _ _ ⟨_,_,_,_,_,_,_,_,_,_,_,_,_,_,_,_,_,_,_,_,_,rfl,⟨(uq J.f0),(uq J.f1),(uq J.f2),(uq J.f3),(fun _=>rfl),(uq J.f5),(uq J.f6),(uq J.f7),(uq J.f8),(uq J.f9),(uq J.f10),(uq J.f11),(uq J.f12),(uq J.f13),(uq J.f14),(uq J.f15),(uq J.f16),(fun h h2=>J.f17 (un h) (by rwa [upd_ne rfl] at h2)),(ub J.f18),(uf hAs),(uq J.nA),(fun _=>B4),J.bel,(uf hAp)⟩⟩
   ·skip
    have hAp:L 19=false:=(hcl 19 18 (by kernel_rfl) (hcl 18 17 (by kernel_rfl) (hcl 17 7 (by kernel_rfl) (hcl 7 6 (by kernel_rfl) (hcl 6 5 (by kernel_rfl) hLi)))))
    have hAs:L 20=false:=(hcl 20 19 (by kernel_rfl) (hcl 19 18 (by kernel_rfl) (hcl 18 17 (by kernel_rfl) (hcl 17 7 (by kernel_rfl) (hcl 7 6 (by kernel_rfl) (hcl 6 5 (by kernel_rfl) hLi))))))
    have B4:=J.b4 hAp
    obtain rfl:=J.f3 (haft ⟨3,.data⟩ (by simp) rfl)
    obtain rfl:=J.f4 (haft ⟨4,.data⟩ (by simp) rfl)
    go_simp
    exact hK _ _ ⟨_,_,_,_,_,_,_,_,_,_,_,_,_,_,_,_,_,_,_,_,_,rfl,⟨(uq J.f0),(uq J.f1),(uq J.f2),(uq J.f3),(uq J.f4),(fun _=>rfl),(uq J.f6),(uq J.f7),(uq J.f8),(uq J.f9),(uq J.f10),(uq J.f11),(uq J.f12),(uq J.f13),(uq J.f14),(uq J.f15),(uq J.f16),(fun h h2=>J.f17 (un h) (by rwa [upd_ne rfl] at h2)),(ub J.f18),(uf hAs),(uq J.nA),(fun _=>B4),J.bel,(uf hAp)⟩⟩
   ·skip
    have hAp:L 19=false:=(hcl 19 18 (by kernel_rfl) (hcl 18 17 (by kernel_rfl) (hcl 17 7 (by kernel_rfl) (hcl 7 6 (by kernel_rfl) hLi))))
    have hAs:L 20=false:=(hcl 20 19 (by kernel_rfl) (hcl 19 18 (by kernel_rfl) (hcl 18 17 (by kernel_rfl) (hcl 17 7 (by kernel_rfl) (hcl 7 6 (by kernel_rfl) hLi)))))
    have B4:=J.b4 hAp
    have q0:=(B4.cell (p:=⟨b,off+k * 5,none⟩) hbl).trans x0
    have q1:=(B4.cell (p:=⟨b,off+k * 5+1,none⟩) hbl).trans x1
    have q2:=(B4.cell (p:=⟨b,off+k * 5+2,none⟩) hbl).trans x2
    have q3:=(B4.cell (p:=⟨b,off+k * 5+3,none⟩) hbl).trans x3
    have q4:=(B4.cell (p:=⟨b,off+k * 5+4,none⟩) hbl).trans x4
    obtain rfl:=J.f5 (haft ⟨5,.data⟩ (by simp) rfl)
    go_simp
    exact hK _ _ ⟨_,_,_,_,_,_,_,_,_,_,_,_,_,_,_,_,_,_,_,_,_,rfl,⟨(uq J.f0),(uq J.f1),(uq J.f2),(uq J.f3),(uq J.f4),(uq J.f5),(fun _=>rfl),(uq J.f7),(uq J.f8),(uq J.f9),(uq J.f10),(uq J.f11),(uq J.f12),(uq J.f13),(uq J.f14),(uq J.f15),(uq J.f16),(fun h h2=>J.f17 (un h) (by rwa [upd_ne rfl] at h2)),(ub J.f18),(uf hAs),(uq J.nA),(fun _=>B4),J.bel,(uf hAp)⟩⟩
   ·skip
    have hAp:L 19=false:=(hcl 19 18 (by kernel_rfl) (hcl 18 17 (by kernel_rfl) (hcl 17 7 (by kernel_rfl) hLi)))
    have hAs:L 20=false:=(hcl 20 19 (by kernel_rfl) (hcl 19 18 (by kernel_rfl) (hcl 18 17 (by kernel_rfl) (hcl 17 7 (by kernel_rfl) hLi))))
    have B4:=J.b4 hAp
    obtain rfl:=J.f1 (haft ⟨1,.data⟩ (by simp) rfl)
    obtain rfl:=J.f6 (haft ⟨6,.data⟩ (by simp) rfl)
    go_simp
    go_wp2_with (go_at_call 96;refine (KT.out W B4).mono ?_;rintro e WN ⟨rfl,_,hb⟩)
    exact ⟨_,_,_,_,_,_,_,_,_,_,_,_,_,_,_,_,_,_,_,_,_,rfl,⟨(uq J.f0),(uq J.f1),(uq J.f2),(uq J.f3),(uq J.f4),(uq J.f5),(uq J.f6),(fun _=>rfl),(uq J.f8),(uq J.f9),(uq J.f10),(uq J.f11),(uq J.f12),(uq J.f13),(uq J.f14),(uq J.f15),(uq J.f16),(fun h h2=>(J.f17 (un h) (by rwa [upd_ne rfl] at h2)).below hb (Nat.le_refl _)),(fun h=>by obtain ⟨g,e,c⟩:=J.f18 (un h);exact ⟨g,e,fun h2=>(hb.cell (World.block_lt_of_cell? _ _ (c (by rwa [upd_ne rfl] at h2)))).trans (c (by rwa [upd_ne rfl] at h2))⟩),(uf hAs),(uq J.nA),(fun _=>k_trans B4 hb),k_trans J.bel hb,(uf hAp)⟩⟩
   ·skip
    have hAp:L 19=false:=(hcl 19 18 (by kernel_rfl) (hcl 18 17 (by kernel_rfl) (hcl 17 16 (by kernel_rfl) (hcl 16 8 (by kernel_rfl) hLi))))
    have hAs:L 20=false:=(hcl 20 19 (by kernel_rfl) (hcl 19 18 (by kernel_rfl) (hcl 18 17 (by kernel_rfl) (hcl 17 16 (by kernel_rfl) (hcl 16 8 (by kernel_rfl) hLi)))))
    have B4:=J.b4 hAp
    go_simp
    exact hK _ _ ⟨_,_,_,_,_,_,_,_,_,_,_,_,_,_,_,_,_,_,_,_,_,rfl,⟨(uq J.f0),(uq J.f1),(uq J.f2),(uq J.f3),(uq J.f4),(uq J.f5),(uq J.f6),(uq J.f7),(fun _=>rfl),(uq J.f9),(uq J.f10),(uq J.f11),(uq J.f12),(uq J.f13),(uq J.f14),(uq J.f15),(uq J.f16),(fun h h2=>J.f17 (un h) (by rwa [upd_ne rfl] at h2)),(ub J.f18),(uf hAs),(uq J.nA),(fun _=>B4),J.bel,(uf hAp)⟩⟩
   ·skip
    have hAp:L 19=false:=(hcl 19 18 (by kernel_rfl) (hcl 18 17 (by kernel_rfl) (hcl 17 16 (by kernel_rfl) (hcl 16 10 (by kernel_rfl) (hcl 10 9 (by kernel_rfl) hLi)))))
    have hAs:L 20=false:=(hcl 20 19 (by kernel_rfl) (hcl 19 18 (by kernel_rfl) (hcl 18 17 (by kernel_rfl) (hcl 17 16 (by kernel_rfl) (hcl 16 10 (by kernel_rfl) (hcl 10 9 (by kernel_rfl) hLi))))))
    have B4:=J.b4 hAp
    go_simp
    exact hK _ _ ⟨_,_,_,_,_,_,_,_,_,_,_,_,_,_,_,_,_,_,_,_,_,rfl,⟨(uq J.f0),(uq J.f1),(uq J.f2),(uq J.f3),(uq J.f4),(uq J.f5),(uq J.f6),(uq J.f7),(uq J.f8),(fun _=>rfl),(uq J.f10),(uq J.f11),(uq J.f12),(uq J.f13),(uq J.f14),(uq J.f15),(uq J.f16),(fun h h2=>J.f17 (un h) (by rwa [upd_ne rfl] at h2)),(ub J.f18),(uf hAs),(uq J.nA),(fun _=>B4),J.bel,(uf hAp)⟩⟩
   ·skip
    have hAp:L 19=false:=(hcl 19 18 (by kernel_rfl) (hcl 18 17 (by kernel_rfl) (hcl 17 16 (by kernel_rfl) (hcl 16 10 (by kernel_rfl) hLi))))
    have hAs:L 20=false:=(hcl 20 19 (by kernel_rfl) (hcl 19 18 (by kernel_rfl) (hcl 18 17 (by kernel_rfl) (hcl 17 16 (by kernel_rfl) (hcl 16 10 (by kernel_rfl) hLi)))))
    have B4:=J.b4 hAp
    obtain ⟨q0,q1,q2,q3,q4⟩:=fiveO ((B4.block _ hlt0).trans HX.out)
    have hl:=Nat.lt_of_lt_of_le hlt0 B4.size
    obtain rfl:=J.f9 (haft ⟨9,.data⟩ (by simp) rfl)
    go_simp
    exact hK _ _ ⟨_,_,_,_,_,_,_,_,_,_,_,_,_,_,_,_,_,_,_,_,_,rfl,⟨(uq J.f0),(uq J.f1),(uq J.f2),(uq J.f3),(uq J.f4),(uq J.f5),(uq J.f6),(uq J.f7),(uq J.f8),(uq J.f9),(fun _=>rfl),(uq J.f11),(uq J.f12),(uq J.f13),(uq J.f14),(uq J.f15),(uq J.f16),(fun h h2=>J.f17 (un h) (by rwa [upd_ne rfl] at h2)),(ub J.f18),(uf hAs),(uq J.nA),(fun _=>B4),J.bel,(uf hAp)⟩⟩
   ·skip
    have hAp:L 19=false:=(hcl 19 18 (by kernel_rfl) (hcl 18 17 (by kernel_rfl) (hcl 17 16 (by kernel_rfl) (hcl 16 15 (by kernel_rfl) (hcl 15 14 (by kernel_rfl) (hcl 14 12 (by kernel_rfl) (hcl 12 11 (by kernel_rfl) hLi)))))))
    have hAs:L 20=false:=(hcl 20 19 (by kernel_rfl) (hcl 19 18 (by kernel_rfl) (hcl 18 17 (by kernel_rfl) (hcl 17 16 (by kernel_rfl) (hcl 16 15 (by kernel_rfl) (hcl 15 14 (by kernel_rfl) (hcl 14 12 (by kernel_rfl) (hcl 12 11 (by kernel_rfl) hLi))))))))
    have B4:=J.b4 hAp
    go_simp
    exact hK _ _ ⟨_,_,_,_,_,_,_,_,_,_,_,_,_,_,_,_,_,_,_,_,_,rfl,⟨(uq J.f0),(uq J.f1),(uq J.f2),(uq J.f3),(uq J.f4),(uq J.f5),(uq J.f6),(uq J.f7),(uq J.f8),(uq J.f9),(uq J.f10),(fun _=>rfl),(uq J.f12),(uq J.f13),(uq J.f14),(uq J.f15),(uq J.f16),(fun h h2=>J.f17 (un h) (by rwa [upd_ne rfl] at h2)),(ub J.f18),(uf hAs),(uq J.nA),(fun _=>B4),J.bel,(uf hAp)⟩⟩
   ·skip
    have hAp:L 19=false:=(hcl 19 18 (by kernel_rfl) (hcl 18 17 (by kernel_rfl) (hcl 17 16 (by kernel_rfl) (hcl 16 15 (by kernel_rfl) (hcl 15 14 (by kernel_rfl) (hcl 14 12 (by kernel_rfl) hLi))))))
    have hAs:L 20=false:=(hcl 20 19 (by kernel_rfl) (hcl 19 18 (by kernel_rfl) (hcl 18 17 (by kernel_rfl) (hcl 17 16 (by kernel_rfl) (hcl 16 15 (by kernel_rfl) (hcl 15 14 (by kernel_rfl) (hcl 14 12 (by kernel_rfl) hLi)))))))
    have B4:=J.b4 hAp
    obtain ⟨q0,q1,q2⟩:=threeO ((B4.block _ hlg).trans HY.out)
    have hl:=Nat.lt_of_lt_of_le hlg B4.size
    obtain rfl:=J.f11 (haft ⟨11,.data⟩ (by simp) rfl)
    go_simp
    exact hK _ _ ⟨_,_,_,_,_,_,_,_,_,_,_,_,_,_,_,_,_,_,_,_,_,rfl,⟨(uq J.f0),(uq J.f1),(uq J.f2),(uq J.f3),(uq J.f4),(uq J.f5),(uq J.f6),(uq J.f7),(uq J.f8),(uq J.f9),(uq J.f10),(uq J.f11),(fun _=>rfl),(uq J.f13),(uq J.f14),(uq J.f15),(uq J.f16),(fun h h2=>J.f17 (un h) (by rwa [upd_ne rfl] at h2)),(ub J.f18),(uf hAs),(uq J.nA),(fun _=>B4),J.bel,(uf hAp)⟩⟩
   ·skip
    have hAp:L 19=false:=(hcl 19 18 (by kernel_rfl) (hcl 18 17 (by kernel_rfl) (hcl 17 16 (by kernel_rfl) (hcl 16 15 (by kernel_rfl) (hcl 15 14 (by kernel_rfl) (hcl 14 13 (by kernel_rfl) hLi))))))
    have hAs:L 20=false:=(hcl 20 19 (by kernel_rfl) (hcl 19 18 (by kernel_rfl) (hcl 18 17 (by kernel_rfl) (hcl 17 16 (by kernel_rfl) (hcl 16 15 (by kernel_rfl) (hcl 15 14 (by kernel_rfl) (hcl 14 13 (by kernel_rfl) hLi)))))))
    have B4:=J.b4 hAp
    go_simp
    exact hK _ _ ⟨_,_,_,_,_,_,_,_,_,_,_,_,_,_,_,_,_,_,_,_,_,rfl,⟨(uq J.f0),(uq J.f1),(uq J.f2),(uq J.f3),(uq J.f4),(uq J.f5),(uq J.f6),(uq J.f7),(uq J.f8),(uq J.f9),(uq J.f10),(uq J.f11),(uq J.f12),(fun _=>rfl),(uq J.f14),(uq J.f15),(uq J.f16),(fun h h2=>J.f17 (un h) (by rwa [upd_ne rfl] at h2)),(ub J.f18),(uf hAs),(uq J.nA),(fun _=>B4),J.bel,(uf hAp)⟩⟩
   ·skip
    have hAp:L 19=false:=(hcl 19 18 (by kernel_rfl) (hcl 18 17 (by kernel_rfl) (hcl 17 16 (by kernel_rfl) (hcl 16 15 (by kernel_rfl) (hcl 15 14 (by kernel_rfl) hLi)))))
    have hAs:L 20=false:=(hcl 20 19 (by kernel_rfl) (hcl 19 18 (by kernel_rfl) (hcl 18 17 (by kernel_rfl) (hcl 17 16 (by kernel_rfl) (hcl 16 15 (by kernel_rfl) (hcl 15 14 (by kernel_rfl) hLi))))))
    have B4:=J.b4 hAp
    obtain rfl:=J.f12 (haft ⟨12,.data⟩ (by simp) rfl)
    obtain rfl:=J.f13 (haft ⟨13,.data⟩ (by simp) rfl)
    go_simp
    exact hK _ _ ⟨_,_,_,_,_,_,_,_,_,_,_,_,_,_,_,_,_,_,_,_,_,rfl,⟨(uq J.f0),(uq J.f1),(uq J.f2),(uq J.f3),(uq J.f4),(uq J.f5),(uq J.f6),(uq J.f7),(uq J.f8),(uq J.f9),(uq J.f10),(uq J.f11),(uq J.f12),(uq J.f13),(fun _=>rfl),(uq J.f15),(uq J.f16),(fun h h2=>J.f17 (un h) (by rwa [upd_ne rfl] at h2)),(ub J.f18),(uf hAs),(uq J.nA),(fun _=>B4),J.bel,(uf hAp)⟩⟩
   ·skip
    have hAp:L 19=false:=(hcl 19 18 (by kernel_rfl) (hcl 18 17 (by kernel_rfl) (hcl 17 16 (by kernel_rfl) (hcl 16 15 (by kernel_rfl) hLi))))
    have hAs:L 20=false:=(hcl 20 19 (by kernel_rfl) (hcl 19 18 (by kernel_rfl) (hcl 18 17 (by kernel_rfl) (hcl 17 16 (by kernel_rfl) (hcl 16 15 (by kernel_rfl) hLi)))))
    have B4:=J.b4 hAp
    have q0:=(B4.cell (p:=⟨b,off+k * 5,none⟩) hbl).trans x0
    have q1:=(B4.cell (p:=⟨b,off+k * 5+1,none⟩) hbl).trans x1
    have q2:=(B4.cell (p:=⟨b,off+k * 5+2,none⟩) hbl).trans x2
    have q3:=(B4.cell (p:=⟨b,off+k * 5+3,none⟩) hbl).trans x3
    have q4:=(B4.cell (p:=⟨b,off+k * 5+4,none⟩) hbl).trans x4
    obtain rfl:=J.f14 (haft ⟨14,.data⟩ (by simp) rfl)
    go_simp
    exact hK _ _ ⟨_,_,_,_,_,_,_,_,_,_,_,_,_,_,_,_,_,_,_,_,_,rfl,⟨(uq J.f0),(uq J.f1),(uq J.f2),(uq J.f3),(uq J.f4),(uq J.f5),(uq J.f6),(uq J.f7),(uq J.f8),(uq J.f9),(uq J.f10),(uq J.f11),(uq J.f12),(uq J.f13),(uq J.f14),(fun _=>rfl),(uq J.f16),(fun h h2=>J.f17 (un h) (by rwa [upd_ne rfl] at h2)),(ub J.f18),(uf hAs),(uq J.nA),(fun _=>B4),J.bel,(uf hAp)⟩⟩
   ·skip
    have hAp:L 19=false:=(hcl 19 18 (by kernel_rfl) (hcl 18 17 (by kernel_rfl) (hcl 17 16 (by kernel_rfl) hLi)))
    have hAs:L 20=false:=(hcl 20 19 (by kernel_rfl) (hcl 19 18 (by kernel_rfl) (hcl 18 17 (by kernel_rfl) (hcl 17 16 (by kernel_rfl) hLi))))
    have B4:=J.b4 hAp
    obtain rfl:=J.f8 (haft ⟨8,.data⟩ (by simp) rfl)
    obtain rfl:=J.f10 (haft ⟨10,.data⟩ (by simp) rfl)
    obtain rfl:=J.f15 (haft ⟨15,.data⟩ (by simp) rfl)
    go_simp
    go_wp2_with (go_at_call 97;refine (KW.out W B4).mono ?_;rintro e WN ⟨rfl,hb⟩)
    exact ⟨_,_,_,_,_,_,_,_,_,_,_,_,_,_,_,_,_,_,_,_,_,rfl,⟨(uq J.f0),(uq J.f1),(uq J.f2),(uq J.f3),(uq J.f4),(uq J.f5),(uq J.f6),(uq J.f7),(uq J.f8),(uq J.f9),(uq J.f10),(uq J.f11),(uq J.f12),(uq J.f13),(uq J.f14),(uq J.f15),(fun _=>rfl),(fun h h2=>(J.f17 (un h) (by rwa [upd_ne rfl] at h2)).below hb (Nat.le_refl _)),(fun h=>by obtain ⟨g,e,c⟩:=J.f18 (un h);exact ⟨g,e,fun h2=>(hb.cell (World.block_lt_of_cell? _ _ (c (by rwa [upd_ne rfl] at h2)))).trans (c (by rwa [upd_ne rfl] at h2))⟩),(uf hAs),(uq J.nA),(fun _=>k_trans B4 hb),k_trans J.bel hb,(uf hAp)⟩⟩
   ·skip
    have hAp:L 19=false:=(hcl 19 18 (by kernel_rfl) (hcl 18 17 (by kernel_rfl) hLi))
    have hAs:L 20=false:=(hcl 20 19 (by kernel_rfl) (hcl 19 18 (by kernel_rfl) (hcl 18 17 (by kernel_rfl) hLi)))
    have B4:=J.b4 hAp
    obtain rfl:=J.f7 (haft ⟨7,.data⟩ (by simp) rfl)
    obtain rfl:=J.f16 (haft ⟨16,.data⟩ (by simp) rfl)
    go_simp
    go_wp2_with (go_at_call 95;refine (KL.out W).mono ?_;rintro e WN ⟨vt,rfl,hR,hb⟩;have hR2:=hR.base (B':=W2.heap.size) (HBs.out J.bel.size);clear hR)
    exact ⟨_,_,_,_,_,_,_,_,_,_,_,_,_,_,_,_,_,_,_,_,_,rfl,⟨(uq J.f0),(uq J.f1),(uq J.f2),(uq J.f3),(uq J.f4),(uq J.f5),(uq J.f6),(uq J.f7),(uq J.f8),(uq J.f9),(uq J.f10),(uq J.f11),(uq J.f12),(uq J.f13),(uq J.f14),(uq J.f15),(uq J.f16),(fun _ _=>hR2),(fun h=>by rw [upd_ne rfl,(hcl 18 17 (by kernel_rfl) hLi)] at h;cases h),(uf hAs),(uq J.nA),(fun _=>k_trans B4 hb),k_trans J.bel hb,(uf hAp)⟩⟩
   ·skip
    have hAp:L 19=false:=(hcl 19 18 (by kernel_rfl) hLi)
    have hAs:L 20=false:=(hcl 20 19 (by kernel_rfl) (hcl 19 18 (by kernel_rfl) hLi))
    have B4:=J.b4 hAp
    obtain ⟨a9,c9,rfl⟩:=(J.f17 (haft ⟨17,.data⟩ (by simp) rfl) hAp).form
    go_simp
    exact hK _ _ ⟨_,_,_,_,_,_,_,_,_,_,_,_,_,_,_,_,_,_,_,_,_,rfl,⟨(uq J.f0),(uq J.f1),(uq J.f2),(uq J.f3),(uq J.f4),(uq J.f5),(uq J.f6),(uq J.f7),(uq J.f8),(uq J.f9),(uq J.f10),(uq J.f11),(uq J.f12),(uq J.f13),(uq J.f14),(uq J.f15),(uq J.f16),(fun h h2=>(J.f17 (un h) (by rwa [upd_ne rfl] at h2)).below (k_alloc (Below.refl _ _) _) (Nat.le_refl _)),(fun _=>⟨_,rfl,fun _=>by simp⟩),(uf hAs),(uq J.nA),(fun _=>k_alloc B4 _),k_alloc J.bel _,(uf hAp)⟩⟩
   ·skip
    have hAp:L 19=false:=hLi
    have hAs:L 20=false:=(hcl 20 19 (by kernel_rfl) hLi)
    have B4:=J.b4 hAp
    obtain rfl:=J.f0 (haft ⟨0,.data⟩ (by simp) rfl)
    obtain ⟨g,rfl,hg⟩:=J.f18 (haft ⟨18,.data⟩ (by simp) rfl)
    have hO4:=ownsRow_keptS HO.out B4
    have hT4:=J.f17 (by cases hz:L 17 with | true=>rfl | false=>have:=hcl 18 17 (by kernel_rfl) hz;rw [(haft ⟨18,.data⟩ (by simp) rfl)] at this;cases this) hAp
    rw [if_pos (by rfl)]
    refine wp_append_own _ (.tmp 17) (.tmp 35) 85 rfl W2.heap.size 100 i0 (.slice none 0 0) 1 24 Tryz.underlying85 hi0 hz0 hz1 hz2 rfl (by decide) _ _ _ rfl hO4 ⟨g,0,none⟩ 1 1 [v34] rfl rfl ?c1 ?c2 ?c3 ?c4 ?c5 ?_
    case c1 =>
     intro i u hi
     match i,hi with
     | 0,hi=>simp at hi;subst hi;simpa [Addr.add] using hg hAp
    case c2=>intro u hu;simp at hu;subst hu;obtain ⟨a9,c9,rfl⟩:=hT4.form;rfl
    case c3=>unfold maxLen;omega
    case c4=>omega
    case c5=>exact HBs.out (J.bel.size)
    intro v' w5 hown' hgrow' _
    have hB5:Below W2.heap.size W2 w5:=J.bel.grown hgrow' J.bel.size (fun q hq=>HBs2.out (hO4.lt q hq).1)
    have hR5:=((HRs.out.kept B4).grown hO4 hgrow').next (hT4.grown hO4 hgrow')
    exact hK _ _ ⟨_,_,_,_,_,_,_,_,_,_,_,_,_,_,_,_,_,_,_,_,_,rfl,⟨(uq J.f0),(uq J.f1),(uq J.f2),(uq J.f3),(uq J.f4),(uq J.f5),(uq J.f6),(uq J.f7),(uq J.f8),(uq J.f9),(uq J.f10),(uq J.f11),(uq J.f12),(uq J.f13),(uq J.f14),(uq J.f15),(uq J.f16),(fun _ h2=>by rw [upd_self] at h2;cases h2),(fun _=>⟨g,rfl,fun h2=>by rw [upd_self] at h2;cases h2⟩),(uf hAs),(uq J.nA),(fun h=>by rw [upd_self] at h;cases h),hB5,(fun _=>⟨by rw [List.length_append];exact hown',hR5⟩)⟩⟩
   ·skip
    go_simp
    exact hK _ _ ⟨_,_,_,_,_,_,_,_,_,_,_,_,_,_,_,_,_,_,_,_,_,rfl,⟨(uq J.f0),(uq J.f1),(uq J.f2),(uq J.f3),(uq J.f4),(uq J.f5),(uq J.f6),(uq J.f7),(uq J.f8),(uq J.f9),(uq J.f10),(uq J.f11),(uq J.f12),(uq J.f13),(uq J.f14),(uq J.f15),(uq J.f16),(fun h h2=>J.f17 (un h) (by rwa [upd_ne rfl] at h2)),(ub J.f18),(fun _=>rfl),(fun h=>by rw [upd_self] at h;cases h),(uq J.b4),J.bel,(uq J.ownA)⟩⟩
end Go.Proofs.YtcbibdhlkdcmiaiGreat
