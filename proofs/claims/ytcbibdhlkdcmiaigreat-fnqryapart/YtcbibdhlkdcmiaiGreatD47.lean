/-
  PROVED HERE: l20Laid draws a table and a width, and turns nothing that was in memory but the reader; DrawWidCols, and all that draw so, draw them. Also: 2 more texts of the same proof.
-/
import Derived.Test.YtcbibdhlkdcmiaiGreatD46
import Derived.Test.YtcbibdhlkdcmiaiGreatD31
import Derived.Test.YtcbibdhlkdcmiaiGreatC19
import Derived.Test.YtcbibdhlkdcmiaiGreatD40
import Derived.Test.YtcbibdhlkdcmiaiGreatD45
import Derived.Deep.RegionWith
namespace Go.Proofs.YtcbibdhlkdcmiaiGreat
open Go.RowKit
theorem IsCode.keptD {w w':World} {a:Option Addr} {len cap:Nat} (h:IsCode w a len cap) (hb:Below w.heap.size w w'):IsCode w' a len cap:=by
 obtain ⟨h1,h2,hc⟩:=h
 refine ⟨h1,h2,fun i hi=>?_⟩
 obtain ⟨b,off,z,e,l,c,z0,z1⟩:=hc i hi
 exact ⟨b,off,z,e,Nat.lt_of_lt_of_le l hb.size,(hb.cell (p:=⟨b,off+i,none⟩) l).trans c,z0,z1⟩
theorem st5_is {w:World} {g:Nat} {x0 x1 x2 x3 x4:Value} {t:TypeId} (h:w.heap[g]?=some (.cells #[x0,x1,x2,x3,x4] t)) (y0 y1 y2 y3 y4:Value):(st5 w g y0 y1 y2 y3 y4).heap[g]?=some (.cells #[y0,y1,y2,y3,y4] t) :=
 (setB (setB (setB (setB (setB h (p:=0) y0) (p:=1) y1) (p:=2) y2) (p:=3) y3) (p:=4) y4).trans (by simp)
set_option maxRecDepth 100000 in
set_option maxHeartbeats 4000000 in
theorem l20Laid_any (r B:Nat) (w:World) (h:Rd w r B) (hB:B≤100) :
  Calls Tryz.prog 43 #[.pointer (some ⟨r,0,none⟩)] w fun e w'=>∃ (ac ar:Option Addr) (cc cr:Nat) (t:T) (x:Int),e=.returned (.tuple #[.agg #[.slice ac t.cols.length cc,.int .i64 t.head,.int .i64 t.foot,.slice ar t.rows.length cr,.int .i64 t.gap],.int .i64 x])∧Drawn t∧(-1≤x∧x≤301)∧ColsAt w' w.heap.size (.slice ac t.cols.length cc) t.cols∧RowsAt w' w.heap.size (.slice ar t.rows.length cr) t.rows∧Bk r w w':=by
 have hlt:=h.lt
 have HR0:=Hd (h.alloc (.cells #[.slice none 0 0,.int .i64 0,.int .i64 0,.slice none 0 0,.int .i64 0] 33))
 have X0:=newest w (.cells #[.slice none 0 0,.int .i64 0,.int .i64 0,.slice none 0 0,.int .i64 0] 33)
 have hs0:(w.alloc (.cells #[.slice none 0 0,.int .i64 0,.int .i64 0,.slice none 0 0,.int .i64 0] 33)).heap.size=w.heap.size+1:=by simp
 have K0:=(Bk.refl r w).alloc (.cells #[.slice none 0 0,.int .i64 0,.int .i64 0,.slice none 0 0,.int .i64 0] 33)
 clear h
 go_enter Tryz.func43,Tryz.ntmps43
 go_wp2_with fail
 refine (l20AnyTable_any r B 24 (by omega) _ HR0.out (by omega)).mono ?_
 rintro e w1 ⟨ac,ar,cc,cr,t,rfl,hD,hC1,hW1,hR1,hb1⟩
 rw [hs0] at hC1 hW1
 have X1:=(hb1.block w.heap.size (by omega) (by omega)).trans X0
 have hz1:=hb1.size
 have hlt1:=hR1.lt
 have hT2:=newest w1 (.cells #[.slice ac t.cols.length cc,.int .i64 t.head,.int .i64 t.foot,.slice ar t.rows.length cr,.int .i64 t.gap] 33)
 have hZ2:=more X1 (.cells #[.slice ac t.cols.length cc,.int .i64 t.head,.int .i64 t.foot,.slice ar t.rows.length cr,.int .i64 t.gap] 33)
 have hC2:=hC1.kept (k_alloc (Below.refl w1.heap.size w1) (.cells #[.slice ac t.cols.length cc,.int .i64 t.head,.int .i64 t.foot,.slice ar t.rows.length cr,.int .i64 t.gap] 33))
 have hW2:=hW1.kept (k_alloc (Below.refl w1.heap.size w1) (.cells #[.slice ac t.cols.length cc,.int .i64 t.head,.int .i64 t.foot,.slice ar t.rows.length cr,.int .i64 t.gap] 33))
 have hR2:=hR1.alloc (.cells #[.slice ac t.cols.length cc,.int .i64 t.head,.int .i64 t.foot,.slice ar t.rows.length cr,.int .i64 t.gap] 33)
 have hK2:=(K0.trans hb1).alloc (.cells #[.slice ac t.cols.length cc,.int .i64 t.head,.int .i64 t.foot,.slice ar t.rows.length cr,.int .i64 t.gap] 33)
 have hS2:Since (w.heap.size+1) w1 (w1.alloc (.cells #[.slice ac t.cols.length cc,.int .i64 t.head,.int .i64 t.foot,.slice ar t.rows.length cr,.int .i64 t.gap] 33)):=Since.of_below (k_alloc (Below.refl _ _) _)
 have HW1:=Hd hW1
 have htr:w1.heap.size ≠ r:=by omega
 have htn:w.heap.size < w1.heap.size:=by omega
 go_upto_region 2 with fail
 generalize w1.alloc (.cells #[.slice ac t.cols.length cc,.int .i64 t.head,.int .i64 t.foot,.slice ar t.rows.length cr,.int .i64 t.gap] 33)=W2 at hT2 hZ2 hC2 hW2 hR2 hK2 hS2 ⊢
 obtain ⟨tb,htb0⟩:∃ tb,tb=w1.heap.size:=⟨_,rfl⟩
 rw [← htb0] at hT2 htr htn ⊢
 have hs1:Since (w.heap.size+1) w1 W2:=hS2
 have htw:tb=w1.heap.size:=htb0
 clear hC1 hR1 hb1 X1 hz1 hlt1 X0 K0 HR0 hs0
 have HT2:=Hd hT2
 have HZ2:=Hd hZ2
 have HD:=Hd hD
 go_wp2_with fail
 refine (pick_any r _ _ _ hR2 (by omega)).mono ?_
 rintro e w3 ⟨k,rfl,_,hR3,hb3⟩
 have hz3:=hb3.size
 have HT:=Hd ((hb3.block tb (bL hT2) htr).trans hT2)
 have HZ:=Hd ((hb3.block w.heap.size (bL hZ2) (by omega)).trans hZ2)
 have hsn:Since (w.heap.size+1) W2 w3:=⟨hb3.size,fun q h1 h2=>hb3.block q h2 (by omega)⟩
 have HC:=Hd (hC2.since hsn)
 have HW:=Hd (hW2.since hsn)
 have HS3:=Hd (hs1.trans hsn)
 have Htw:=Hd htw
 clear htw htb0 hs1 hS2 hW1
 have HR:=Hd hR3
 have HK:=Hd (hK2.trans hb3)
 clear hT2 hZ2 hC2 hW2 hR2 hK2 hR3 hb3 hsn HT2 HZ2 hD
 by_cases h0:k=0
 case neg =>
  have hne:(k == 0)=false:=beq_eq_false_iff_ne.2 h0
  clear h0
  obtain ⟨W4,hW4⟩:∃ W4,W4=w3:=⟨_,rfl⟩
  subst hW4
  obtain ⟨⟨d0,d1,d2,d3,d4⟩,_⟩:=fiveZ HT.out
  have hR4:=HR.out.drew
  have hK4:=(Bk.refl r W4).drew
  have hlW:w.heap.size < W4.heap.size:=(bL HZ.out)
  go_upto_region 4 with fail
  go_region_with (first
   | (go_at_call 69;refine (l20Width_any r (B+3000+1) _ hR4 (by omega)).mono ?_;rintro e w6 ⟨x,rfl,hx,_,hb6⟩;have hb6':=hK4.trans hb6;have hTz:=(hb6'.block tb (bL HT.out) htr).trans HT.out;have hZz:=(hb6'.block w.heap.size hlW (by omega)).trans HZ.out;obtain ⟨⟨e0,e1,e2,e3,e4⟩,_⟩:=fiveZ hTz;obtain ⟨⟨x0,x1,x2,x3,x4⟩,y0,y1,y2,y3,y4⟩:=fiveZ hZz;have HX:=Hd hx;have HB6:=Hd hb6';clear hTz hZz hb6 hx hb6'))
  all_goals
   have hw6:=HB6.out.size
   have hsn:Since (w.heap.size+1) W4 w6:=⟨HB6.out.size,fun q h1 h2=>HB6.out.block q h2 (by omega)⟩
   have HC6:=Hd ((HC.out.since hsn).since (Since.st5a (z:=w.heap.size+1) (g:=w.heap.size) (by omega) (.slice ac t.cols.length cc) (.int .i64 t.head) (.int .i64 t.foot) (.slice ar t.rows.length cr) (.int .i64 t.gap)))
   have HW6:=Hd ((HW.out.since hsn).since (Since.st5a (z:=w.heap.size+1) (g:=w.heap.size) (by omega) (.slice ac t.cols.length cc) (.int .i64 t.head) (.int .i64 t.foot) (.slice ar t.rows.length cr) (.int .i64 t.gap)))
   have HK6:=Hd ((HK.out.trans HB6.out).via (st5_bk w6 w.heap.size (.slice ac t.cols.length cc) (.int .i64 t.head) (.int .i64 t.foot) (.slice ar t.rows.length cr) (.int .i64 t.gap)) (Nat.le_refl _))
   clear hsn
   go_wp2
   exact bodyPost_ret (v:=.tuple #[.agg #[.slice ac t.cols.length cc,.int .i64 t.head,.int .i64 t.foot,.slice ar t.rows.length cr,.int .i64 t.gap],.int .i64 x]) (by simp [results,Tryz.results43,go_sem,x0,x1,x2,x3,x4]) rfl ⟨ac,ar,cc,cr,t,x,rfl,HD.out,HX.out,HC6.out.base (by omega),HW6.out.base (by omega),HK6.out⟩
 case pos =>
  subst h0
  obtain ⟨⟨d0,d1,d2,d3,d4⟩,_⟩:=fiveZ HT.out
  go_wp2_with fail
  refine (l20AllFixed_any r _ ac ar cc cr t HD.out _ HR.out (by omega) HC.out HW.out).mono ?_
  rintro e w5 ⟨ad,cd,ps,rfl,hps,hC5,hR5,hb5⟩
  have hz5:=hb5.size
  have hw3:w.heap.size+1≤w3.heap.size:=by have:=(bL HT.out);omega
  have HT5:=Hd ((hb5.block tb (bL HT.out) htr).trans HT.out)
  have HZ5:=Hd ((hb5.block w.heap.size (bL HZ.out) (by omega)).trans HZ.out)
  have hW5:=HW.out.since (z:=w.heap.size+1) ⟨hb5.size,fun q h1 h2=>hb5.block q h2 (by omega)⟩
  obtain ⟨⟨q0,q1,q2,q3,q4⟩,p0,p1,p2,p3,p4⟩:=fiveZ HT5.out
  clear d0 d1 d2 d3 d4
  have hbq:=st5_bk w5 tb (.slice ad ps.length cd) (.int .i64 t.head) (.int .i64 t.foot) (.slice ar t.rows.length cr) (.int .i64 t.gap)
  have htb3:tb < w3.heap.size:=(bL HT.out)
  have hT6:=st5_is HT5.out (.slice ad ps.length cd) (.int .i64 t.head) (.int .i64 t.foot) (.slice ar t.rows.length cr) (.int .i64 t.gap)
  have hZ6:=(hbq.block w.heap.size (bL HZ5.out) (by omega)).trans HZ5.out
  have hC6:=(hC5.since (Since.st5a (z:=w3.heap.size) (g:=tb) htb3 (.slice ad ps.length cd) (.int .i64 t.head) (.int .i64 t.foot) (.slice ar t.rows.length cr) (.int .i64 t.gap))).base hw3
  have hW6:RowsAt (st5 w5 tb (.slice ad ps.length cd) (.int .i64 t.head) (.int .i64 t.foot) (.slice ar t.rows.length cr) (.int .i64 t.gap)) (w.heap.size+1) (.slice ar t.rows.length cr) t.rows :=
   HW1.out.since ⟨Nat.le_trans HS3.out.size (Nat.le_trans hb5.size hbq.size),fun q h1 h2=>(hbq.block q (by have:=HS3.out.size;omega) (by rw [Htw.out];omega)).trans ((hb5.block q (by have:=HS3.out.size;omega) (by omega)).trans (HS3.out.block q h1 h2))⟩
  have hR6:Rd (st5 w5 tb (.slice ad ps.length cd) (.int .i64 t.head) (.int .i64 t.foot) (.slice ar t.rows.length cr) (.int .i64 t.gap)) r (B+3000+1+8):=hR5.keep (fun q hq=>hbq.block q (by have:=hR5.lt;omega) (by omega))
  have hK6:=(HK.out.trans hb5).via hbq (by omega)
  have HDp:Hid (Drawn ⟨ps,t.head,t.foot,t.rows,t.gap⟩):=⟨HD.out.rows,by show ps.length≤9;omega,HD.out.head,HD.out.foot,HD.out.gap,HD.out.cells,HD.out.few⟩
  clear HT HZ HC HW HR HK HT5 HZ5 hW5 hC5 hR5 hb5 hbq HD HW1 HS3 Htw
  go_upto_region 4 with fail
  unfold st5 at hT6 hZ6 hC6 hW6 hR6 hK6
  generalize (((((w5.setCell ⟨tb,0,none⟩ (.slice ad ps.length cd)).setCell ⟨tb,1,none⟩ (.int .i64 t.head)).setCell ⟨tb,2,none⟩ (.int .i64 t.foot)).setCell ⟨tb,3,none⟩ (.slice ar t.rows.length cr)).setCell ⟨tb,4,none⟩ (.int .i64 t.gap))=W4 at hT6 hZ6 hC6 hW6 hR6 hK6 ⊢
  have HT:=Hd hT6
  have HZ:=Hd hZ6
  have HC:=Hd hC6
  have HW:=Hd hW6
  have HR:=Hd hR6
  have HK:=Hd hK6
  have HD:=HDp
  clear hT6 hZ6 hC6 hW6 hR6 hK6 HDp q0 q1 q2 q3 q4 p0 p1 p2 p3 p4
  obtain ⟨⟨d0,d1,d2,d3,d4⟩,_⟩:=fiveZ HT.out
  have hR4:=HR.out.drew
  have hK4:=(Bk.refl r W4).drew
  have hlW:w.heap.size < W4.heap.size:=(bL HZ.out)
  go_region_with (first
   | (go_at_call 69;refine (l20Width_any r (B+3000+1+8) _ hR4 (by omega)).mono ?_;rintro e w6 ⟨x,rfl,hx,_,hb6⟩;have hb6':=hK4.trans hb6;have hTz:=(hb6'.block tb (bL HT.out) htr).trans HT.out;have hZz:=(hb6'.block w.heap.size hlW (by omega)).trans HZ.out;obtain ⟨⟨e0,e1,e2,e3,e4⟩,_⟩:=fiveZ hTz;obtain ⟨⟨x0,x1,x2,x3,x4⟩,y0,y1,y2,y3,y4⟩:=fiveZ hZz;have HX:=Hd hx;have HB6:=Hd hb6';clear hTz hZz hb6 hx hb6'))
  all_goals
   have hw6:=HB6.out.size
   have hsn:Since (w.heap.size+1) W4 w6:=⟨HB6.out.size,fun q h1 h2=>HB6.out.block q h2 (by omega)⟩
   have HC6:=Hd ((HC.out.since hsn).since (Since.st5a (z:=w.heap.size+1) (g:=w.heap.size) (by omega) (.slice ad ps.length cd) (.int .i64 t.head) (.int .i64 t.foot) (.slice ar t.rows.length cr) (.int .i64 t.gap)))
   have HW6:=Hd ((HW.out.since hsn).since (Since.st5a (z:=w.heap.size+1) (g:=w.heap.size) (by omega) (.slice ad ps.length cd) (.int .i64 t.head) (.int .i64 t.foot) (.slice ar t.rows.length cr) (.int .i64 t.gap)))
   have HK6:=Hd ((HK.out.trans HB6.out).via (st5_bk w6 w.heap.size (.slice ad ps.length cd) (.int .i64 t.head) (.int .i64 t.foot) (.slice ar t.rows.length cr) (.int .i64 t.gap)) (Nat.le_refl _))
   clear hsn
   go_wp2
   exact bodyPost_ret (v:=.tuple #[.agg #[.slice ad ps.length cd,.int .i64 t.head,.int .i64 t.foot,.slice ar t.rows.length cr,.int .i64 t.gap],.int .i64 x]) (by simp [results,Tryz.results43,go_sem,x0,x1,x2,x3,x4]) rfl ⟨ad,ar,cd,cr,⟨ps,t.head,t.foot,t.rows,t.gap⟩,x,rfl,HD.out,HX.out,HC6.out.base (by omega),HW6.out.base (by omega),HK6.out⟩
set_option maxRecDepth 100000 in
set_option maxHeartbeats 1000000 in
theorem drawQryRects_any (a:Option Addr) (len cap:Nat) (w:World) (h:IsCode w a len cap) :
  Calls Tryz.prog 13 #[.slice a len cap] w fun e w'=>∃ (ac ar:Option Addr) (cc cr:Nat) (t:T) (x:Int),e=.returned (.tuple #[.agg #[.slice ac t.cols.length cc,.int .i64 t.head,.int .i64 t.foot,.slice ar t.rows.length cr,.int .i64 t.gap],.int .i64 x])∧Drawn t∧(-1≤x∧x≤301)∧ColsAt w' w.heap.size (.slice ac t.cols.length cc) t.cols∧RowsAt w' w.heap.size (.slice ar t.rows.length cr) t.rows∧Below w.heap.size w w':=by
 have K0:=k_alloc (Below.refl w.heap.size w) (.cells #[.slice none 0 0,.int .i64 0,.int .i64 0,.slice none 0 0,.int .i64 0] 33)
 have HC:=Hd (h.keptD K0)
 have X0:=newestB w (.cells #[.slice none 0 0,.int .i64 0,.int .i64 0,.slice none 0 0,.int .i64 0] 33)
 clear h
 have hsz:(w.alloc (.cells #[.slice none 0 0,.int .i64 0,.int .i64 0,.slice none 0 0,.int .i64 0] 33)).heap.size=w.heap.size+1:=by simp
 go_enter Tryz.func13,Tryz.ntmps13
 go_wp2_with fail
 refine (open_any _ _ _ _ HC.out).mono ?_
 rintro e w1 ⟨rfl,hR1,hb1⟩
 rw [hsz] at hR1 hb1
 have X1:=(hb1.block w.heap.size (by omega)).trans X0
 have K1:=k_trans K0 (by rw [hsz];exact hb1)
 have hz1:=hR1.lt
 go_wp2_with fail
 refine (l20Laid_any (w.heap.size+1) 0 _ hR1 (by omega)).mono ?_
 rintro e w2 ⟨ac,ar,cc,cr,t,x,rfl,hD,hx,hC2,hW2,hb2⟩
 have X2:=(hb2.block w.heap.size (by omega) (by omega)).trans X1
 have K2:=K1.trans (hb2.below (by omega) (by omega))
 have hz2:=hb2.size
 have hw1:w.heap.size+2≤w1.heap.size:=by omega
 have HC3:=Hd ((hC2.base hw1).since (Since.st5a (z:=w.heap.size+2) (g:=w.heap.size) (by omega) (.slice ac t.cols.length cc) (.int .i64 t.head) (.int .i64 t.foot) (.slice ar t.rows.length cr) (.int .i64 t.gap)))
 have HW3:=Hd ((hW2.base hw1).since (Since.st5a (z:=w.heap.size+2) (g:=w.heap.size) (by omega) (.slice ac t.cols.length cc) (.int .i64 t.head) (.int .i64 t.foot) (.slice ar t.rows.length cr) (.int .i64 t.gap)))
 have K3:=Hd (K2.trans ((st5_bk w2 w.heap.size (.slice ac t.cols.length cc) (.int .i64 t.head) (.int .i64 t.foot) (.slice ar t.rows.length cr) (.int .i64 t.gap)).below (by omega) (Nat.le_refl _)))
 have HD:=Hd hD
 obtain ⟨⟨x0,x1,x2,x3,x4⟩,y0,y1,y2,y3,y4⟩:=fiveZ X2
 clear hC2 hW2 hb2 X2 X1 X0 K0 K1 K2 hD HC hR1 hb1
 go_wp2
 exact bodyPost_ret (v:=.tuple #[.agg #[.slice ac t.cols.length cc,.int .i64 t.head,.int .i64 t.foot,.slice ar t.rows.length cr,.int .i64 t.gap],.int .i64 x]) (by simp [results,Tryz.results13,go_sem,x0,x1,x2,x3,x4]) rfl ⟨ac,ar,cc,cr,t,x,rfl,HD.out,hx,HC3.out.base (by omega),HW3.out.base (by omega),K3.out⟩
end Go.Proofs.YtcbibdhlkdcmiaiGreat
namespace Go.Proofs.YtcbibdhlkdcmiaiGreat
open Go.RowKit Go.BigFrame
theorem fourQ {w:World} {g:Nat} {x0 x1 x2 x3:Value} {t:TypeId} (h:w.heap[g]?=some (.cells #[x0,x1,x2,x3] t)):w.cell? ⟨g,0,none⟩=some x0∧w.cell? ⟨g,1,none⟩=some x1∧w.cell? ⟨g,2,none⟩=some x2∧w.cell? ⟨g,3,none⟩=some x3:=⟨cellB h,cellB h,cellB h,cellB h⟩
theorem apart_yes {t:T} (hD:Drawn t) {x:Int} (hok:tblB t=true) (hx:0≤x∧x≤300):ApF t (widL t x) (rowsOfT t (widL t x)) (rectsT t x) (tabV t x) (rowsT t x).sum∧(rowsT t x).length≤8∧(rowsT t x).all wtB=true∧(rectsT t x).length=cnTo t.rows t.rows.length:=by
 have hm:(tblB t && inB x 0 300)=true:=by rw [hok,inB_true hx.1 hx.2];rfl
 have h:=ap_facts (tabF hD hok hx)
 obtain ⟨_,e2,e3,_⟩:=acr_wid hD hok hx
 have eR:rowsT t x=rowsOfT t (widL t x):=by rw [rowsT,if_pos hm]
 have eQ:rectsT t x=rectsL t (widL t x) (rowsOfT t (widL t x)) (gOf t).cells:=by rw [rectsT,if_pos hm]
 rw [eR,eQ,e3]
 rw [e2] at h
 refine ⟨h,?_,small_wt (tabF hD hok hx).rn,?_⟩
 ·rw [rowsOfT,rowsL_len];exact tRows hD hok
 ·rw [rectsL_len,gOf_ok hok];exact gridOf_len t
theorem rectsT_no {t:T} {x:Int} (h:¬ (tblB t=true∧0≤x∧x≤300)):rectsT t x=[]:=by
 rw [rectsT,if_neg (fun hm=>h ?_)]
 rw [Bool.and_eq_true] at hm
 exact ⟨hm.1,by simpa [inB] using hm.2⟩
set_option maxRecDepth 100000 in
set_option maxHeartbeats 4000000 in
theorem lawQA_walk (A:Option Addr) (len cap:Nat) (hlen:len≤1048576) (w:World) (h:IsCode w A len cap) :
  Calls Tryz.prog 4 #[.slice A len cap] w fun e w'=>e=.returned (.bool true)∧Below w.heap.size w w':=by
 have hl:¬ (1048576:Int) < (len:Int):=by omega
 have HD:=Hd h
 clear h
 go_enter Tryz.func4,Tryz.ntmps4
 go_wp2_with fail
 refine (drawQryRects_any _ _ _ _ HD.out).mono ?_
 rintro e w1 ⟨ac,ar,cc,cr,t,x,rfl,hD,hxb,hC1,hW1,hb1⟩
 have HS:Hid (St w w1.heap.size ac ar cc cr t (w1.alloc (.cells #[.slice ac t.cols.length cc,.int .i64 t.head,.int .i64 t.foot,.slice ar t.rows.length cr,.int .i64 t.gap] 33))):=⟨hb1.alloc hb1.size _,TA.kept ⟨hC1,hW1⟩ (k_alloc (Below.refl _ _) _),newestB _ _⟩
 have h40:=gLen hD
 have HY:=Hd (fun h1 h2=>apart_yes hD (x:=x) h1 h2)
 have HNo:=Hd (fun h=>rectsT_no (t:=t) (x:=x) h)
 have HQi:=Hd (fun W (h:TA W w.heap.size ac ar cc cr t)=>implQryRects ac ar cc cr t hD x W h.1 h.2)
 have HQs:=Hd (fun W (h:TA W w.heap.size ac ar cc cr t)=>specQryRects ac ar cc cr t hD x W h.1 h.2)
 have HTi:Hid (∀ W,TA W w.heap.size ac ar cc cr t→Calls Tryz.prog 18 #[.agg #[.slice ac t.cols.length cc,.int .i64 t.head,.int .i64 t.foot,.slice ar t.rows.length cr,.int .i64 t.gap],.int .i64 x] W fun e w'=>e=.returned (.int .i64 (tabV t x))∧Below W.heap.size W w'):=fun W h=>implWidTable ac ar cc cr t hD x W h.1 h.2
 have HRi:=Hd (fun W (h:TA W w.heap.size ac ar cc cr t)=>implHgtRows ac ar cc cr t hD x W h.1 h.2)
 have HCn:=Hd (fun W (h:TA W w.heap.size ac ar cc cr t)=>implTblCells ac ar cc cr t (tot_small hD) W h.2)
 have HOs:=Hd (fun W (h:TA W w.heap.size ac ar cc cr t)=>specTblOk ac ar cc cr t W h.1 h.2)
 clear hC1 hW1 hb1 hD HD
 go_upto_region 4 with fail
 generalize w1.alloc (.cells #[.slice ac t.cols.length cc,.int .i64 t.head,.int .i64 t.foot,.slice ar t.rows.length cr,.int .i64 t.gap] 33)=W1 at HS ⊢
 generalize w1.heap.size=tb at HS ⊢
 obtain ⟨z0,z1,z2,z3,z4⟩:=HS.out.at
 go_wp2_with fail
 refine (HQi.out _ HS.out.2.1).mono ?_
 rintro e w3 ⟨v3,rfl,hR3,hb3⟩
 obtain ⟨a3,c3,rfl,hq3⟩:=At.form hR3
 have HJ:=Hd hR3
 replace HS:=Hd (HS.out.kept hb3)
 clear hR3 hb3 z0 z1 z2 z3 z4 HQi
 obtain ⟨z0,z1,z2,z3,z4⟩:=HS.out.at
 go_wp2_with fail
 refine (HQs.out _ HS.out.2.1).mono ?_
 rintro e w6 ⟨v6,rfl,hR6,hb6⟩
 have HJ6:=Hd hR6
 obtain ⟨a6,c6,rfl,_⟩:=At.form hR6
 replace HJ:=Hd (HJ.out.kept hb6)
 replace HS:=Hd (HS.out.kept hb6)
 clear hR6 hb6 z0 z1 z2 z3 z4 HQs
 go_wp2_with fail
 refine (pwRects_any _ _ (rectsT t x) _ HJ.out HJ6.out).mono ?_
 rintro e w7 ⟨rfl,hb7⟩
 replace HJ:=Hd (HJ.out.kept hb7)
 replace HS:=Hd (HS.out.kept hb7)
 clear hb7 HJ6
 obtain ⟨z0,z1,z2,z3,z4⟩:=HS.out.at
 have KO:=Hd (HOs.out w7 HS.out.2.1)
 by_cases hall:tblB t=true∧0≤x∧x≤300
 case neg=>as_aux_lemma =>
  have hz:=HNo.out hall
  rw [hz]
  clear HY HNo HTi HRi HCn HOs HJ hz hq3
  cases htk:tblB t with
  | false =>
   rw [htk] at KO
   clear htk hall
   go_wp2_with fail
   refine KO.out.mono ?_
   rintro e w8 ⟨rfl,hb8⟩
   replace HS:=Hd (HS.out.kept hb8)
   clear hb8 KO z0 z1 z2 z3 z4
   go_wp2_with fail
   refine (pwOk_any _).mono ?_
   rintro e w9 ⟨rfl,rfl⟩
   go_wp2
   go_ret
   exact ⟨rfl,HS.out.1⟩
  | true =>
   rw [htk] at KO
   have hx:x < 0∨300 < x:=by
    have:¬ (0≤x∧x≤300):=fun h=>hall ⟨htk,h⟩
    omega
   clear htk hall
   rcases hx with hx | hx
   case' inr=>have hx0:¬ x < 0:=by omega
   all_goals
    go_wp2_with fail
    refine KO.out.mono ?_
    rintro e w8 ⟨rfl,hb8⟩
    replace HS:=Hd (HS.out.kept hb8)
    clear hb8 KO z0 z1 z2 z3 z4
    go_wp2_with fail
    refine (pwOk_any _).mono ?_
    rintro e w9 ⟨rfl,rfl⟩
    go_wp2
    go_ret
    exact ⟨rfl,HS.out.1⟩
 case pos=>as_aux_lemma =>
  obtain ⟨htk,hx⟩:=hall
  obtain ⟨hA,hr8,hrw,hqc⟩:=HY.out htk hx
  rw [htk] at KO
  have hx0:¬ x < 0:=by omega
  have hx3:¬ 300 < x:=by omega
  have HA:=Hd hA
  have HArea:=Hd (area_le hA)
  have HAb:=Hd (area_bound hA)
  have hwd:=hA.wd
  have hhg:=hA.hg
  have hq40:(rectsT t x).length≤40:=by rw [hA.len];exact h40
  have HQc:=Hd hqc
  clear hA HY HNo HOs hqc htk hx
  generalize rectsT t x=QL at HA HArea HAb HQc hq40 HJ hq3 ⊢
  generalize tabV t x=wd at HA HArea HAb hwd HTi
  generalize widL t x=l0 at HA
  generalize rowsOfT t l0=r0 at HA
  generalize rowsT t x=RL at HA HArea HAb hhg HRi hr8 hrw
  have HSm:Hid (∀ W v,IntsAt W v RL→Calls Tryz.prog 19 #[v] W fun e w'=>e=.returned (.int .i64 RL.sum)∧w'=W):=fun W v h=>lawspwSum_any v RL (by omega) hrw W h
  generalize RL.sum=hg at HA HArea HAb hhg HSm
  have hmul:0≤wd * hg∧wd * hg≤8000000000:=⟨Int.mul_nonneg hwd.1 hhg.1,Int.le_trans (Int.mul_le_mul hwd.2 hhg.2 hhg.1 (by omega)) (by omega)⟩
  have hwm:wrap64 (wd * hg)=wd * hg:=W_small (by omega)
  go_wp2_with fail
  refine KO.out.mono ?_
  rintro e w8 ⟨rfl,hb8⟩
  replace HS:=Hd (HS.out.kept hb8)
  replace HJ:=Hd (HJ.out.kept hb8)
  clear hb8 KO z0 z1 z2 z3 z4
  obtain ⟨z0,z1,z2,z3,z4⟩:=HS.out.at
  go_wp2_with fail
  refine (HTi.out _ HS.out.2.1).mono ?_
  rintro e w9 ⟨rfl,hb9⟩
  replace HS:=Hd (HS.out.kept hb9)
  replace HJ:=Hd (HJ.out.kept hb9)
  clear hb9 HTi z0 z1 z2 z3 z4
  obtain ⟨z0,z1,z2,z3,z4⟩:=HS.out.at
  go_wp2_with fail
  refine (HRi.out _ HS.out.2.1).mono ?_
  rintro e w10 ⟨v10,rfl,hR10,hb10⟩
  obtain ⟨ah,ch,rfl⟩:=hR10.form
  have HH:=Hd hR10.at
  replace HS:=Hd (HS.out.kept hb10)
  replace HJ:=Hd (HJ.out.kept hb10)
  clear hR10 hb10 HRi z0 z1 z2 z3 z4
  go_wp2_with fail
  refine (HSm.out _ _ HH.out).mono ?_
  rintro e w11 ⟨rfl,e11⟩
  subst e11
  clear HSm HH hr8 hrw
  unfold maxLen at hq3
  go_wp2_with fail
  go_loopw [9,8] (fun s q W=>∃ k:Nat,s=.int .i64 k∧k≤QL.length∧q=.int .i64 (areaTo QL k)∧Hid (Below w11.heap.size w11 W)) (fun s _ _=>QL.length - (intOf s).toNat)
  case atStart=>exact ⟨0,rfl,Nat.zero_le _,rfl,Below.refl _ _⟩
  case round =>
   obtain ⟨k,rfl,hk,rfl,HB⟩:=hrel
   have HSr:=Hd (HS.out.kept HB.out)
   have HJr:=Hd (HJ.out.kept HB.out)
   clear HS HJ
   by_cases hkl:k < QL.length
   case neg=>as_aux_lemma =>
    obtain rfl:k=QL.length:=by omega
    have hle:=HArea.out
    have hbd:=HAb.out QL.length (Nat.le_refl _)
    have hqe:((QL.length:Int) == ((cnTo t.rows t.rows.length:Nat):Int))=true:=by rw [HQc.out];simp
    generalize areaTo QL QL.length=ar0 at hle hbd ⊢
    obtain ⟨z0,z1,z2,z3,z4⟩:=HSr.out.at
    go_wp2_with fail
    refine (HCn.out _ HSr.out.2.1).mono ?_
    rintro e w12 ⟨rfl,hb12⟩
    replace HSr:=Hd (HSr.out.kept hb12)
    clear hb12 z0 z1 z2 z3 z4
    go_wp2
    go_ret
    exact ⟨rfl,HSr.out.1⟩
   obtain ⟨bq,offq,capq,eq1,hq1,hq2,hbq,n0,n1,n2,n3⟩:=At.get HJr.out hkl
   simp only [Value.slice.injEq,true_and] at eq1
   obtain ⟨rfl,rfl⟩:=eq1
   unfold maxLen at hq2
   obtain ⟨⟨d1,d2⟩,⟨d3,d4⟩,d5,d6⟩:=HA.out.box k hkl
   have HAp:=Hd (fun i (hi:i < k)=>HA.out.apart i k hi hkl)
   have HBx:=Hd (fun i (hi:i < k)=>HA.out.box i (Nat.lt_trans hi hkl))
   have hab:=HAb.out k hk
   have HAn:Hid (areaTo QL (k+1)=areaTo QL k+(QL.getD k dQ).w * (QL.getD k dQ).h):=rfl
   have hab1:=HAb.out (k+1) hkl
   generalize areaTo QL k=ar0 at hab HAn ⊢
   generalize QL.getD k dQ=qa at n0 n1 n2 n3 d1 d2 d3 d4 d5 d6 HAp HAn
   rw [HAn.out] at hab1
   have hpa:0≤qa.w * qa.h∧qa.w * qa.h≤8000000000:=⟨Int.mul_nonneg d5 d6,Int.le_trans (Int.mul_le_mul (show qa.w≤1000000 by omega) (show qa.h≤8000 by omega) d6 (by omega)) (by omega)⟩
   have hwa:wrap64 (qa.w * qa.h)=qa.w * qa.h:=W_small (by omega)
   have KAr:=Hd (fun W=>implQryArea qa.x qa.y qa.w qa.h W)
   rw [hwa] at KAr
   clear hwa
   generalize qa.w * qa.h=pa at HAn hab1 hpa KAr
   have t1:(k:Int) < (QL.length:Int):=by omega
   go_upto_region 16 with fail
   have HC4:=newestB wr (.cells #[.int .i64 qa.x,.int .i64 qa.y,.int .i64 qa.w,.int .i64 qa.h] 50)
   have KA:=k_alloc (Below.refl wr.heap.size wr) (.cells #[.int .i64 qa.x,.int .i64 qa.y,.int .i64 qa.w,.int .i64 qa.h] 50)
   have HB4:=Hd (k_trans HB.out KA)
   have HS4:=Hd (HSr.out.kept KA)
   have HJ4:=Hd (HJr.out.kept KA)
   have hcw:wr.heap.size < (wr.alloc (.cells #[.int .i64 qa.x,.int .i64 qa.y,.int .i64 qa.w,.int .i64 qa.h] 50)).heap.size:=by simp
   clear KA n0 n1 n2 n3 hbq HSr HJr
   generalize wr.alloc (.cells #[.int .i64 qa.x,.int .i64 qa.y,.int .i64 qa.w,.int .i64 qa.h] 50)=W4 at HB4 HC4 hcw HS4 HJ4 ⊢
   generalize wr.heap.size=qb0 at HC4 hcw ⊢
   obtain ⟨o0,o1,o2,o3⟩:=fourQ HC4
   go_wp2_with fail
   refine (KAr.out _).mono ?_
   rintro e w13 ⟨rfl,hb13⟩
   have HC5:=Hd ((hb13.block qb0 hcw).trans HC4)
   have HB5:=Hd (k_trans HB4.out hb13)
   have HS5:=Hd (HS4.out.kept hb13)
   have HJ5:=Hd (HJ4.out.kept hb13)
   clear hb13 HC4 HB4 HS4 HJ4 o0 o1 o2 o3 KAr hcw
   obtain ⟨o0,o1,o2,o3⟩:=fourQ HC5.out
   have c1:¬ qa.x < 0:=by omega
   have c2:¬ qa.y < 0:=by omega
   have c3:¬ wd < qa.x+qa.w:=by omega
   have c4:¬ hg < qa.y+qa.h:=by omega
   go_wp2_with fail
   go_loopw [11] (fun s W=>∃ m:Nat,s=.int .i64 m∧m≤k∧Hid (Below w13.heap.size w13 W)) (fun s _=>k - (intOf s).toNat)
   case atStart=>exact ⟨0,rfl,Nat.zero_le _,Below.refl _ _⟩
   case round=>as_aux_lemma =>
    obtain ⟨m,rfl,hm,HBm⟩:=hrel
    have HC6:=Hd ((HBm.out.block qb0 (bL HC5.out)).trans HC5.out)
    clear o0 o1 o2 o3
    by_cases hmk:m < k
    case neg =>
     obtain rfl:m=k:=by omega
     have HB7:=Hd (HB5.out.trans (HBm.out.mono HB5.out.size))
     have hnot:¬ ((m:Int) < (m:Int)):=by omega
     go_wp2
     go_roundw
     case rel=>exact ⟨m+1,by go_num,by omega,by rw [HAn.out],HB7⟩
     case measure=>simp [intOf];omega
    obtain ⟨bq2,offq2,capq2,eq2,hq12,hq22,hbq2,n0,n1,n2,n3⟩:=At.get (HJ5.out.kept HBm.out) (show m < QL.length by omega)
    simp only [Value.slice.injEq,Option.some.injEq,Addr.mk.injEq,and_true,true_and] at eq2
    obtain ⟨⟨rfl,rfl⟩,rfl⟩:=eq2
    have hap:=HAp.out m hmk
    obtain ⟨⟨g1,g2⟩,⟨g3,g4⟩,g5,g6⟩:=HBx.out m hmk
    generalize QL.getD m dQ=qb at n0 n1 n2 n3 hap g1 g2 g3 g4 g5 g6
    have t2:(m:Int) < (QL.length:Int):=by omega
    have t3:(m:Int) < (k:Int):=by omega
    go_upto_region 23 with fail
    have HC8:=newestB wr (.cells #[.int .i64 qb.x,.int .i64 qb.y,.int .i64 qb.w,.int .i64 qb.h] 50)
    have KA:=k_alloc (Below.refl wr.heap.size wr) (.cells #[.int .i64 qb.x,.int .i64 qb.y,.int .i64 qb.w,.int .i64 qb.h] 50)
    have HB5':=Hd (k_trans HBm.out KA)
    have HC9:=(KA.block qb0 (bL HC6.out)).trans HC6.out
    clear KA n0 n1 n2 n3 hbq2 HBm
    generalize wr.alloc (.cells #[.int .i64 qb.x,.int .i64 qb.y,.int .i64 qb.w,.int .i64 qb.h] 50)=W9 at HB5' HC8 HC9 ⊢
    generalize wr.heap.size=qb1 at HC8 ⊢
    obtain ⟨o0,o1,o2,o3⟩:=fourQ HC9
    obtain ⟨p0,p1,p2,p3⟩:=fourQ HC8
    have HB5:=HB5'
    clear HB5' HC8 HC9 HC6
    by_cases v1:qa.x < qb.x+qb.w
    case neg =>
     go_wp2
     go_roundw
     case rel=>exact ⟨m+1,by go_num,by omega,HB5⟩
     case measure=>simp [intOf];omega
    by_cases v2:qb.x < qa.x+qa.w
    case neg =>
     go_wp2
     go_roundw
     case rel=>exact ⟨m+1,by go_num,by omega,HB5⟩
     case measure=>simp [intOf];omega
    by_cases v3:qa.y < qb.y+qb.h
    case neg =>
     go_wp2
     go_roundw
     case rel=>exact ⟨m+1,by go_num,by omega,HB5⟩
     case measure=>simp [intOf];omega
    have v4:¬ qb.y < qa.y+qa.h:=fun h4=>hap ⟨v1,v2,v3,h4⟩
    go_wp2
    go_roundw
    case rel=>exact ⟨m+1,by go_num,by omega,HB5⟩
    case measure=>simp [intOf];omega
theorem lawQryApart (a:Option Addr) (len cap:Nat) (w:World) (h:IsCode w a len cap) :
  Calls Tryz.prog 4 #[.slice a len cap] w fun e w'=>e=.returned (.bool true)∧Below w.heap.size w w':=by
 by_cases hl:len≤1048576
 ·exact lawQA_walk a len cap hl w h
 ·have hl':(1048576:Int) < (len:Int):=by omega
  clear h
  go_enter Tryz.func4,Tryz.ntmps4
  go_wp2
  go_ret
  exact ⟨rfl,Below.refl _ _⟩
end Go.Proofs.YtcbibdhlkdcmiaiGreat
