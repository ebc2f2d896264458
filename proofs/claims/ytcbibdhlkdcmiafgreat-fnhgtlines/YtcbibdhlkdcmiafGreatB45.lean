/-
  PROVED HERE: l20Laid draws a table and a width, and turns nothing that was in memory but the reader; DrawWidCols, and all that draw so, draw them. Also: DrawHgtLines draws a table and a width. Also: the law FnHgtLines returns true at every code that lies in memory.
-/
import Derived.Test.YtcbibdhlkdcmiafGreatB44
import Derived.Test.YtcbibdhlkdcmiafGreatB29
import Derived.Test.YtcbibdhlkdcmiafGreatB14
import Derived.Test.YtcbibdhlkdcmiafGreatB38
import Derived.Test.YtcbibdhlkdcmiafGreatB43
import Derived.Deep.RegionWith
namespace Go.Proofs.YtcbibdhlkdcmiafGreat
open Go.RowKit

theorem IsCode.keptD {w w':World} {a:Option Addr} {len cap:Nat} (h:IsCode w a len cap) (hb:Below w.heap.size w w'):IsCode w' a len cap:=by
 obtain ⟨h1,h2,hc⟩:=h
 refine ⟨h1,h2,fun i hi=>?_⟩
 obtain ⟨b,off,z,e,l,c,z0,z1⟩:=hc i hi
 exact ⟨b,off,z,e,Nat.lt_of_lt_of_le l hb.size,(hb.cell (p:=⟨b,off+i,none⟩) l).trans c,z0,z1⟩
theorem st5_is {w:World} {g:Nat} {x0 x1 x2 x3 x4:Value} {t:TypeId} (h:w.heap[g]?=some (.cells #[x0,x1,x2,x3,x4] t)) (y0 y1 y2 y3 y4:Value):(st5 w g y0 y1 y2 y3 y4).heap[g]?=some (.cells #[y0,y1,y2,y3,y4] t) :=
 (setB (setB (setB (setB (setB h (p:=0) y0) (p:=1) y1) (p:=2) y2) (p:=3) y3) (p:=4) y4).trans (by simp)
set_option maxRecDepth 100000 in
set_option maxHeartbeats 4000000 in
theorem l20Laid_any (r B:Nat) (w:World) (h:Rd w r B) (hB:B≤100) :
  Calls Tryz.prog 33 #[.pointer (some ⟨r,0,none⟩)] w fun e w'=>∃ (ac ar:Option Addr) (cc cr:Nat) (t:T) (x:Int),e=.returned (.tuple #[.agg #[.slice ac t.cols.length cc,.int .i64 t.head,.int .i64 t.foot,.slice ar t.rows.length cr,.int .i64 t.gap],.int .i64 x])∧Drawn t∧(-1≤x∧x≤301)∧ColsAt w' w.heap.size (.slice ac t.cols.length cc) t.cols∧RowsAt w' w.heap.size (.slice ar t.rows.length cr) t.rows∧Bk r w w':=by
 have hlt:=h.lt
 have HR0:=Hid.intro (h.alloc (.cells #[.slice none 0 0,.int .i64 0,.int .i64 0,.slice none 0 0,.int .i64 0] 26))
 have X0:=newest w (.cells #[.slice none 0 0,.int .i64 0,.int .i64 0,.slice none 0 0,.int .i64 0] 26)
 have hs0:(w.alloc (.cells #[.slice none 0 0,.int .i64 0,.int .i64 0,.slice none 0 0,.int .i64 0] 26)).heap.size=w.heap.size+1:=by simp
 have K0:=(Bk.refl r w).alloc (.cells #[.slice none 0 0,.int .i64 0,.int .i64 0,.slice none 0 0,.int .i64 0] 26)
 clear h
 go_enter Tryz.func33,Tryz.ntmps33
 go_wp2_with fail
 refine (l20AnyTable_any r B 24 (by omega) _ HR0.out (by omega)).mono ?_
 rintro e w1 ⟨ac,ar,cc,cr,t,rfl,hD,hC1,hW1,hR1,hb1⟩
 rw [hs0] at hC1 hW1
 have X1:=(hb1.block w.heap.size (by omega) (by omega)).trans X0
 have hz1:=hb1.size
 have hlt1:=hR1.lt
 have hT2:=newest w1 (.cells #[.slice ac t.cols.length cc,.int .i64 t.head,.int .i64 t.foot,.slice ar t.rows.length cr,.int .i64 t.gap] 26)
 have hZ2:=more X1 (.cells #[.slice ac t.cols.length cc,.int .i64 t.head,.int .i64 t.foot,.slice ar t.rows.length cr,.int .i64 t.gap] 26)
 have hC2:=hC1.kept (k_alloc (Below.refl w1.heap.size w1) (.cells #[.slice ac t.cols.length cc,.int .i64 t.head,.int .i64 t.foot,.slice ar t.rows.length cr,.int .i64 t.gap] 26))
 have hW2:=hW1.kept (k_alloc (Below.refl w1.heap.size w1) (.cells #[.slice ac t.cols.length cc,.int .i64 t.head,.int .i64 t.foot,.slice ar t.rows.length cr,.int .i64 t.gap] 26))
 have hR2:=hR1.alloc (.cells #[.slice ac t.cols.length cc,.int .i64 t.head,.int .i64 t.foot,.slice ar t.rows.length cr,.int .i64 t.gap] 26)
 have hK2:=(K0.trans hb1).alloc (.cells #[.slice ac t.cols.length cc,.int .i64 t.head,.int .i64 t.foot,.slice ar t.rows.length cr,.int .i64 t.gap] 26)
 have hS2:Since (w.heap.size+1) w1 (w1.alloc (.cells #[.slice ac t.cols.length cc,.int .i64 t.head,.int .i64 t.foot,.slice ar t.rows.length cr,.int .i64 t.gap] 26)):=Since.of_below (k_alloc (Below.refl _ _) _)
 have HW1:=Hid.intro hW1
 have htr:w1.heap.size ≠ r:=by omega
 have htn:w.heap.size < w1.heap.size:=by omega
 go_upto_region 2 with fail
 generalize w1.alloc (.cells #[.slice ac t.cols.length cc,.int .i64 t.head,.int .i64 t.foot,.slice ar t.rows.length cr,.int .i64 t.gap] 26)=W2 at hT2 hZ2 hC2 hW2 hR2 hK2 hS2 ⊢
 obtain ⟨tb,htb0⟩:∃ tb,tb=w1.heap.size:=⟨_,rfl⟩
 rw [← htb0] at hT2 htr htn ⊢
 have hs1:Since (w.heap.size+1) w1 W2:=hS2
 have htw:tb=w1.heap.size:=htb0
 clear hC1 hR1 hb1 X1 hz1 hlt1 X0 K0 HR0 hs0
 have HT2:=Hid.intro hT2
 have HZ2:=Hid.intro hZ2
 have HD:=Hid.intro hD
 go_wp2_with fail
 refine (pick_any r _ _ _ hR2 (by omega)).mono ?_
 rintro e w3 ⟨k,rfl,_,hR3,hb3⟩
 have hz3:=hb3.size
 have HT:=Hid.intro ((hb3.block tb (Array.getElem?_eq_some_iff.1 hT2).1 htr).trans hT2)
 have HZ:=Hid.intro ((hb3.block w.heap.size (Array.getElem?_eq_some_iff.1 hZ2).1 (by omega)).trans hZ2)
 have hsn:Since (w.heap.size+1) W2 w3:=⟨hb3.size,fun q h1 h2=>hb3.block q h2 (by omega)⟩
 have HC:=Hid.intro (hC2.since hsn)
 have HW:=Hid.intro (hW2.since hsn)
 have HS3:=Hid.intro (hs1.trans hsn)
 have Htw:=Hid.intro htw
 clear htw htb0 hs1 hS2 hW1
 have HR:=Hid.intro hR3
 have HK:=Hid.intro (hK2.trans hb3)
 clear hT2 hZ2 hC2 hW2 hR2 hK2 hR3 hb3 hsn HT2 HZ2 hD
 by_cases h0:k=0
 case neg =>
  have hne:(k == 0)=false:=beq_eq_false_iff_ne.2 h0
  clear h0
  obtain ⟨W4,hW4⟩:∃ W4,W4=w3:=⟨_,rfl⟩
  subst hW4
  obtain ⟨⟨d0,d1,d2,d3,d4⟩,_⟩:=fiveZ HT.out
  have hR4:=HR.out.drew
  have hK4:=(Bk.refl r W4).drew
  have hlW:w.heap.size < W4.heap.size:=(Array.getElem?_eq_some_iff.1 HZ.out).1
  go_upto_region 4 with fail
  go_region_with (first
   | (go_at_call 70;refine (l20Width_any r (B+3000+1) _ hR4 (by omega)).mono ?_;rintro e w6 ⟨x,rfl,hx,_,hb6⟩;have hb6':=hK4.trans hb6;have hTz:=(hb6'.block tb (Array.getElem?_eq_some_iff.1 HT.out).1 htr).trans HT.out;have hZz:=(hb6'.block w.heap.size hlW (by omega)).trans HZ.out;obtain ⟨⟨e0,e1,e2,e3,e4⟩,_⟩:=fiveZ hTz;obtain ⟨⟨x0,x1,x2,x3,x4⟩,y0,y1,y2,y3,y4⟩:=fiveZ hZz;have HX:=Hid.intro hx;have HB6:=Hid.intro hb6';clear hTz hZz hb6 hx hb6'))
  all_goals
   have hw6:=HB6.out.size
   have hsn:Since (w.heap.size+1) W4 w6:=⟨HB6.out.size,fun q h1 h2=>HB6.out.block q h2 (by omega)⟩
   have HC6:=Hid.intro ((HC.out.since hsn).since (Since.st5a (z:=w.heap.size+1) (g:=w.heap.size) (by omega) (.slice ac t.cols.length cc) (.int .i64 t.head) (.int .i64 t.foot) (.slice ar t.rows.length cr) (.int .i64 t.gap)))
   have HW6:=Hid.intro ((HW.out.since hsn).since (Since.st5a (z:=w.heap.size+1) (g:=w.heap.size) (by omega) (.slice ac t.cols.length cc) (.int .i64 t.head) (.int .i64 t.foot) (.slice ar t.rows.length cr) (.int .i64 t.gap)))
   have HK6:=Hid.intro ((HK.out.trans HB6.out).via (st5_bk w6 w.heap.size (.slice ac t.cols.length cc) (.int .i64 t.head) (.int .i64 t.foot) (.slice ar t.rows.length cr) (.int .i64 t.gap)) (Nat.le_refl _))
   clear hsn
   go_wp2
   exact bodyPost_ret (v:=.tuple #[.agg #[.slice ac t.cols.length cc,.int .i64 t.head,.int .i64 t.foot,.slice ar t.rows.length cr,.int .i64 t.gap],.int .i64 x]) (by simp [results,Tryz.results33,go_sem,x0,x1,x2,x3,x4]) rfl ⟨ac,ar,cc,cr,t,x,rfl,HD.out,HX.out,HC6.out.base (by omega),HW6.out.base (by omega),HK6.out⟩
 case pos =>
  subst h0
  obtain ⟨⟨d0,d1,d2,d3,d4⟩,_⟩:=fiveZ HT.out
  go_wp2_with fail
  refine (l20AllFixed_any r _ ac ar cc cr t HD.out _ HR.out (by omega) HC.out HW.out).mono ?_
  rintro e w5 ⟨ad,cd,ps,rfl,hps,hC5,hR5,hb5⟩
  have hz5:=hb5.size
  have hw3:w.heap.size+1≤w3.heap.size:=by have:=(Array.getElem?_eq_some_iff.1 HT.out).1;omega
  have HT5:=Hid.intro ((hb5.block tb (Array.getElem?_eq_some_iff.1 HT.out).1 htr).trans HT.out)
  have HZ5:=Hid.intro ((hb5.block w.heap.size (Array.getElem?_eq_some_iff.1 HZ.out).1 (by omega)).trans HZ.out)
  have hW5:=HW.out.since (z:=w.heap.size+1) ⟨hb5.size,fun q h1 h2=>hb5.block q h2 (by omega)⟩
  obtain ⟨⟨q0,q1,q2,q3,q4⟩,p0,p1,p2,p3,p4⟩:=fiveZ HT5.out
  clear d0 d1 d2 d3 d4
  have hbq:=st5_bk w5 tb (.slice ad ps.length cd) (.int .i64 t.head) (.int .i64 t.foot) (.slice ar t.rows.length cr) (.int .i64 t.gap)
  have htb3:tb < w3.heap.size:=(Array.getElem?_eq_some_iff.1 HT.out).1
  have hT6:=st5_is HT5.out (.slice ad ps.length cd) (.int .i64 t.head) (.int .i64 t.foot) (.slice ar t.rows.length cr) (.int .i64 t.gap)
  have hZ6:=(hbq.block w.heap.size (Array.getElem?_eq_some_iff.1 HZ5.out).1 (by omega)).trans HZ5.out
  have hC6:=(hC5.since (Since.st5a (z:=w3.heap.size) (g:=tb) htb3 (.slice ad ps.length cd) (.int .i64 t.head) (.int .i64 t.foot) (.slice ar t.rows.length cr) (.int .i64 t.gap))).base hw3
  have hW6:RowsAt (st5 w5 tb (.slice ad ps.length cd) (.int .i64 t.head) (.int .i64 t.foot) (.slice ar t.rows.length cr) (.int .i64 t.gap)) (w.heap.size+1) (.slice ar t.rows.length cr) t.rows :=
   HW1.out.since ⟨Nat.le_trans HS3.out.size (Nat.le_trans hb5.size hbq.size),fun q h1 h2=>(hbq.block q (by have:=HS3.out.size;omega) (by rw [Htw.out];omega)).trans ((hb5.block q (by have:=HS3.out.size;omega) (by omega)).trans (HS3.out.block q h1 h2))⟩
  have hR6:Rd (st5 w5 tb (.slice ad ps.length cd) (.int .i64 t.head) (.int .i64 t.foot) (.slice ar t.rows.length cr) (.int .i64 t.gap)) r (B+3000+1+8):=hR5.keep (fun q hq=>hbq.block q (by have:=hR5.lt;omega) (by omega))
  have hK6:=(HK.out.trans hb5).via hbq (by omega)
  have HDp:Hid (Drawn ⟨ps,t.head,t.foot,t.rows,t.gap⟩):=⟨HD.out.rows,by show ps.length≤9;omega,HD.out.head,HD.out.foot,HD.out.gap,HD.out.cells,HD.out.few⟩
  clear HT HZ HC HW HR HK HT5 HZ5 hW5 hC5 hR5 hb5 hbq HD HW1 HS3 Htw
  go_upto_region 4 with fail
  unfold st5 at hT6 hZ6 hC6 hW6 hR6 hK6
  generalize (((((w5.setCell ⟨tb,0,none⟩ (.slice ad ps.length cd)).setCell ⟨tb,1,none⟩ (.int .i64 t.head)).setCell ⟨tb,2,none⟩ (.int .i64 t.foot)).setCell ⟨tb,3,none⟩ (.slice ar t.rows.length cr)).setCell ⟨tb,4,none⟩ (.int .i64 t.gap))=W4 at hT6 hZ6 hC6 hW6 hR6 hK6 ⊢
  have HT:=Hid.intro hT6
  have HZ:=Hid.intro hZ6
  have HC:=Hid.intro hC6
  have HW:=Hid.intro hW6
  have HR:=Hid.intro hR6
  have HK:=Hid.intro hK6
  have HD:=HDp
  clear hT6 hZ6 hC6 hW6 hR6 hK6 HDp q0 q1 q2 q3 q4 p0 p1 p2 p3 p4
  obtain ⟨⟨d0,d1,d2,d3,d4⟩,_⟩:=fiveZ HT.out
  have hR4:=HR.out.drew
  have hK4:=(Bk.refl r W4).drew
  have hlW:w.heap.size < W4.heap.size:=(Array.getElem?_eq_some_iff.1 HZ.out).1
  go_region_with (first
   | (go_at_call 70;refine (l20Width_any r (B+3000+1+8) _ hR4 (by omega)).mono ?_;rintro e w6 ⟨x,rfl,hx,_,hb6⟩;have hb6':=hK4.trans hb6;have hTz:=(hb6'.block tb (Array.getElem?_eq_some_iff.1 HT.out).1 htr).trans HT.out;have hZz:=(hb6'.block w.heap.size hlW (by omega)).trans HZ.out;obtain ⟨⟨e0,e1,e2,e3,e4⟩,_⟩:=fiveZ hTz;obtain ⟨⟨x0,x1,x2,x3,x4⟩,y0,y1,y2,y3,y4⟩:=fiveZ hZz;have HX:=Hid.intro hx;have HB6:=Hid.intro hb6';clear hTz hZz hb6 hx hb6'))
  all_goals
   have hw6:=HB6.out.size
   have hsn:Since (w.heap.size+1) W4 w6:=⟨HB6.out.size,fun q h1 h2=>HB6.out.block q h2 (by omega)⟩
   have HC6:=Hid.intro ((HC.out.since hsn).since (Since.st5a (z:=w.heap.size+1) (g:=w.heap.size) (by omega) (.slice ad ps.length cd) (.int .i64 t.head) (.int .i64 t.foot) (.slice ar t.rows.length cr) (.int .i64 t.gap)))
   have HW6:=Hid.intro ((HW.out.since hsn).since (Since.st5a (z:=w.heap.size+1) (g:=w.heap.size) (by omega) (.slice ad ps.length cd) (.int .i64 t.head) (.int .i64 t.foot) (.slice ar t.rows.length cr) (.int .i64 t.gap)))
   have HK6:=Hid.intro ((HK.out.trans HB6.out).via (st5_bk w6 w.heap.size (.slice ad ps.length cd) (.int .i64 t.head) (.int .i64 t.foot) (.slice ar t.rows.length cr) (.int .i64 t.gap)) (Nat.le_refl _))
   clear hsn
   go_wp2
   exact bodyPost_ret (v:=.tuple #[.agg #[.slice ad ps.length cd,.int .i64 t.head,.int .i64 t.foot,.slice ar t.rows.length cr,.int .i64 t.gap],.int .i64 x]) (by simp [results,Tryz.results33,go_sem,x0,x1,x2,x3,x4]) rfl ⟨ad,ar,cd,cr,⟨ps,t.head,t.foot,t.rows,t.gap⟩,x,rfl,HD.out,HX.out,HC6.out.base (by omega),HW6.out.base (by omega),HK6.out⟩
end Go.Proofs.YtcbibdhlkdcmiafGreat
namespace Go.Proofs.YtcbibdhlkdcmiafGreat
open Go.RowKit

set_option maxRecDepth 100000 in
set_option maxHeartbeats 1000000 in
theorem drawHgtLines_any (a:Option Addr) (len cap:Nat) (w:World) (h:IsCode w a len cap) :
  Calls Tryz.prog 29 #[.slice a len cap] w fun e w'=>∃ (ac ar:Option Addr) (cc cr:Nat) (t:T) (x:Int),e=.returned (.tuple #[.agg #[.slice ac t.cols.length cc,.int .i64 t.head,.int .i64 t.foot,.slice ar t.rows.length cr,.int .i64 t.gap],.int .i64 x])∧Drawn t∧(-1≤x∧x≤301)∧ColsAt w' w.heap.size (.slice ac t.cols.length cc) t.cols∧RowsAt w' w.heap.size (.slice ar t.rows.length cr) t.rows∧Below w.heap.size w w':=by
 have K0:=k_alloc (Below.refl w.heap.size w) (.cells #[.slice none 0 0,.int .i64 0,.int .i64 0,.slice none 0 0,.int .i64 0] 26)
 have HC:=Hid.intro (h.keptD K0)
 have X0:=newestB w (.cells #[.slice none 0 0,.int .i64 0,.int .i64 0,.slice none 0 0,.int .i64 0] 26)
 clear h
 have hsz:(w.alloc (.cells #[.slice none 0 0,.int .i64 0,.int .i64 0,.slice none 0 0,.int .i64 0] 26)).heap.size=w.heap.size+1:=by simp
 go_enter Tryz.func29,Tryz.ntmps29
 go_wp2_with fail
 refine (open_any _ _ _ _ HC.out).mono ?_
 rintro e w1 ⟨rfl,hR1,hb1⟩
 rw [hsz] at hR1 hb1
 have X1:=(hb1.block w.heap.size (by omega)).trans X0
 have K1:=k_trans K0 (by rw [hsz];exact hb1)
 have hz1:=hR1.lt
 go_wp2_with fail
 refine (l20Laid_any (w.heap.size+1) 0 _ hR1 (by omega)).mono ?_
 rintro e w2 ⟨ac,ar,cc,cr,t,x,rfl,hD,hx,hC2,hW2,hb2⟩
 have X2:=(hb2.block w.heap.size (by omega) (by omega)).trans X1
 have K2:=K1.trans (hb2.below (by omega) (by omega))
 have hz2:=hb2.size
 have hw1:w.heap.size+2≤w1.heap.size:=by omega
 have HC3:=Hid.intro ((hC2.base hw1).since (Since.st5a (z:=w.heap.size+2) (g:=w.heap.size) (by omega) (.slice ac t.cols.length cc) (.int .i64 t.head) (.int .i64 t.foot) (.slice ar t.rows.length cr) (.int .i64 t.gap)))
 have HW3:=Hid.intro ((hW2.base hw1).since (Since.st5a (z:=w.heap.size+2) (g:=w.heap.size) (by omega) (.slice ac t.cols.length cc) (.int .i64 t.head) (.int .i64 t.foot) (.slice ar t.rows.length cr) (.int .i64 t.gap)))
 have K3:=Hid.intro (K2.trans ((st5_bk w2 w.heap.size (.slice ac t.cols.length cc) (.int .i64 t.head) (.int .i64 t.foot) (.slice ar t.rows.length cr) (.int .i64 t.gap)).below (by omega) (Nat.le_refl _)))
 have HD:=Hid.intro hD
 obtain ⟨⟨x0,x1,x2,x3,x4⟩,y0,y1,y2,y3,y4⟩:=fiveZ X2
 clear hC2 hW2 hb2 X2 X1 X0 K0 K1 K2 hD HC hR1 hb1
 go_wp2
 exact bodyPost_ret (v:=.tuple #[.agg #[.slice ac t.cols.length cc,.int .i64 t.head,.int .i64 t.foot,.slice ar t.rows.length cr,.int .i64 t.gap],.int .i64 x]) (by simp [results,Tryz.results29,go_sem,x0,x1,x2,x3,x4]) rfl ⟨ac,ar,cc,cr,t,x,rfl,HD.out,hx,HC3.out.base (by omega),HW3.out.base (by omega),K3.out⟩
end Go.Proofs.YtcbibdhlkdcmiafGreat
namespace Go.Proofs.YtcbibdhlkdcmiafGreat
open Go.RowKit Go.BigFrame

theorem cellsL5 {w:World} {g:Nat} {x0 x1 x2 x3 x4:Value} {t:TypeId} (h:w.heap[g]?=some (.cells #[x0,x1,x2,x3,x4] t)) (hg:g < w.heap.size):(∀ p:BW w,p.u.cell? ⟨g,0,none⟩=some x0)∧(∀ p:BW w,p.u.cell? ⟨g,1,none⟩=some x1)∧(∀ p:BW w,p.u.cell? ⟨g,2,none⟩=some x2)∧(∀ p:BW w,p.u.cell? ⟨g,3,none⟩=some x3)∧(∀ p:BW w,p.u.cell? ⟨g,4,none⟩=some x4) :=
 ⟨bw_cell (a:=⟨g,0,none⟩) hg (cellB (p:=0) h),bw_cell (a:=⟨g,1,none⟩) hg (cellB (p:=1) h),bw_cell (a:=⟨g,2,none⟩) hg (cellB (p:=2) h),bw_cell (a:=⟨g,3,none⟩) hg (cellB (p:=3) h),bw_cell (a:=⟨g,4,none⟩) hg (cellB (p:=4) h)⟩
set_option maxRecDepth 100000 in
set_option maxHeartbeats 4000000 in
theorem lawHL_walk (A:Option Addr) (len cap:Nat) (hlen:len≤1048576) (w:World) (h:IsCode w A len cap) :
  Calls Tryz.prog 6 #[.slice A len cap] w fun e w'=>e=.returned (.bool true)∧Below w.heap.size w w':=by
 have hl:¬ (1048576:Int) < (len:Int):=by omega
 have hmx:Tryz.prog.follows .mixedOrders=true:=by kernel_rfl
 have HD:=Hid.intro h
 clear h
 go_enter Tryz.func6,Tryz.ntmps6
 go_wp2_with fail
 refine (drawHgtLines_any _ _ _ _ HD.out).mono ?_
 rintro e w1 ⟨ac,ar,cc,cr,t,x,rfl,hD,hxb,hC1,hW1,hb1⟩
 have HS:Hid (St w w1.heap.size ac ar cc cr t (w1.alloc (.cells #[.slice ac t.cols.length cc,.int .i64 t.head,.int .i64 t.foot,.slice ar t.rows.length cr,.int .i64 t.gap] 26))):=⟨hb1.alloc hb1.size _,TA.kept ⟨hC1,hW1⟩ (k_alloc (Below.refl _ _) _),newestB _ _⟩
 have HGk:=Hid.intro (gOf_gok hD)
 obtain ⟨h40,C,hgc,hC88,hcel⟩:=cel_of hD
 have HCel:=Hid.intro hcel
 have hWn:(widT t x).length≤1048576:=by
  unfold widT
  split
  ·rename_i hm
   rw [Bool.and_eq_true] at hm
   obtain ⟨_,e2,_⟩:=acr_wid hD hm.1 (width:=x) (by simpa [inB] using hm.2)
   rw [e2,colN_of hgc];omega
  ·exact Nat.zero_le _
 have HF:=Hid.intro (hl_facts hD x)
 have HLi:=Hid.intro (fun W (h:TA W w.heap.size ac ar cc cr t)=>implHgtLines ac ar cc cr t hD x W h.1 h.2)
 have HLs:=Hid.intro (fun W (h:TA W w.heap.size ac ar cc cr t)=>specHgtLines ac ar cc cr t hD x W h.1 h.2)
 have HWi:=Hid.intro (fun W (h:TA W w.heap.size ac ar cc cr t)=>implWidCols ac ar cc cr t hD x W h.1 h.2)
 have HGo:=Hid.intro (fun W (h:TA W w.heap.size ac ar cc cr t)=>implGrdOf ac ar cc cr t hD W h.1 h.2)
 generalize widT t x=WL at HF HWi hWn
 generalize linesT t x=LL at HF HLi HLs
 clear hC1 hW1 hb1 hD HD hcel hgc
 go_upto_region 4 with fail
 generalize w1.alloc (.cells #[.slice ac t.cols.length cc,.int .i64 t.head,.int .i64 t.foot,.slice ar t.rows.length cr,.int .i64 t.gap] 26)=W1 at HS ⊢
 generalize w1.heap.size=tb at HS ⊢
 obtain ⟨z0,z1,z2,z3,z4⟩:=HS.out.at
 go_wp2_with fail
 refine (HLi.out _ HS.out.2.1).mono ?_
 rintro e w3 ⟨v3,rfl,hR3,hb3⟩
 obtain ⟨a3,c3,rfl,_⟩:=At.form hR3
 have HJ:=Hid.intro hR3
 replace HS:=Hid.intro (HS.out.kept hb3)
 clear hR3 hb3 z0 z1 z2 z3 z4 HLi
 obtain ⟨z0,z1,z2,z3,z4⟩:=HS.out.at
 go_wp2_with fail
 refine (HLs.out _ HS.out.2.1).mono ?_
 rintro e w6 ⟨v6,rfl,hR6,hb6⟩
 have HJ6:=Hid.intro hR6
 obtain ⟨a6,c6,rfl,_⟩:=At.form hR6
 replace HJ:=Hid.intro (HJ.out.kept hb6)
 replace HS:=Hid.intro (HS.out.kept hb6)
 clear hR6 hb6 z0 z1 z2 z3 z4 HLs
 go_wp2_with fail
 refine (pwAll_any _ _ LL _ HJ.out HJ6.out).mono ?_
 rintro e w7 ⟨rfl,hb7⟩
 replace HJ:=Hid.intro (HJ.out.kept hb7)
 replace HS:=Hid.intro (HS.out.kept hb7)
 clear hb7 HJ6
 obtain ⟨z0,z1,z2,z3,z4⟩:=HS.out.at
 go_wp2_with fail
 refine (HWi.out _ HS.out.2.1).mono ?_
 rintro e w2 ⟨v2,rfl,hR2,hb2⟩
 obtain ⟨al,cl,rfl⟩:=hR2.form
 have HI:=Hid.intro hR2.at
 replace HJ:=Hid.intro (HJ.out.kept hb2)
 replace HS:=Hid.intro (HS.out.kept hb2)
 clear hR2 hb2 z0 z1 z2 z3 z4 HWi
 obtain ⟨z0,z1,z2,z3,z4⟩:=HS.out.at
 go_wp2_with fail
 refine (HGo.out _ HS.out.2.1).mono ?_
 rintro e w8 ⟨vg,rfl,hO8,hb8⟩
 obtain ⟨ag,cg,rfl⟩:=own_slice hO8
 have hG8:=hO8.at HGk.out
 have KA:=k_alloc (Below.refl w8.heap.size w8) (.cells #[.int .i64 (gOf t).rows,.int .i64 (gOf t).cols,.slice ag (gOf t).cells.length cg] 46)
 have HGr0:Hid (SGr w tb w8.heap.size ac ar cc cr t ag cg (w8.alloc (.cells #[.int .i64 (gOf t).rows,.int .i64 (gOf t).cols,.slice ag (gOf t).cells.length cg] 46))) :=
  ⟨(HS.out.kept hb8).kept KA,(hG8.base (z':=w.heap.size) HS.out.1.size).kept KA,newestB _ _⟩
 have HI0:=Hid.intro ((HI.out.kept hb8).kept KA)
 have HJ0:=Hid.intro ((HJ.out.kept hb8).kept KA)
 clear hO8 hb8 hG8 HS HI HJ KA z0 z1 z2 z3 z4 HGo
 go_upto_region 9 with fail
 generalize w8.alloc (.cells #[.int .i64 (gOf t).rows,.int .i64 (gOf t).cols,.slice ag (gOf t).cells.length cg] 46)=W8 at HGr0 HI0 HJ0 ⊢
 generalize w8.heap.size=gb at HGr0 ⊢
 go_wp2_with fail
 go_loopw [8] (fun s W=>∃ k:Nat,s=.int .i64 k∧k≤LL.length∧Hid (Below W8.heap.size W8 W)) (fun s _=>LL.length - (intOf s).toNat)
 case atStart=>exact ⟨0,rfl,Nat.zero_le _,Below.refl _ _⟩
 case round =>
  obtain ⟨k,rfl,hk,HB⟩:=hrel
  have HGr:=Hid.intro (HGr0.out.kept HB.out)
  have HIr:=Hid.intro (HI0.out.kept HB.out)
  have HJr:=Hid.intro (HJ0.out.kept HB.out)
  obtain ⟨y0,y1,y2⟩:=HGr.out.at
  by_cases hkl:k < LL.length
  case neg =>
   obtain rfl:k=LL.length:=by omega
   have HK:=Hid.intro HGr.out.1.1
   rcases HF.out.ends with he | he
   ·have heb:((LL.length:Int) == ((gOf t).cells.length:Int))=true:=by rw [he];simp
    go_wp2_with fail
    refine (pwOk_any _).mono ?_
    rintro e w9 ⟨rfl,rfl⟩
    go_wp2
    go_ret
    exact ⟨rfl,HK.out⟩
   ·have hWz:WL=[]:=List.eq_nil_of_length_eq_zero he
    subst hWz
    by_cases heq:LL.length=(gOf t).cells.length
    ·have heb:((LL.length:Int) == ((gOf t).cells.length:Int))=true:=by rw [heq];simp
     go_wp2_with fail
     refine (pwOk_any _).mono ?_
     rintro e w9 ⟨rfl,rfl⟩
     go_wp2
     go_ret
     exact ⟨rfl,HK.out⟩
    ·have heb:((LL.length:Int) == ((gOf t).cells.length:Int))=false:=beq_eq_false_iff_ne.2 (by omega)
     go_wp2_with fail
     refine (pwOk_any _).mono ?_
     rintro e w9 ⟨rfl,rfl⟩
     go_wp2
     go_ret
     exact ⟨rfl,HK.out⟩
  have hkc:k < (gOf t).cells.length:=Nat.lt_of_lt_of_le hkl HF.out.le
  obtain ⟨b,off,cap',e',hc1,hc2,hbl,hx,hgo⟩:=At.get HGr.out.2.1 hkc
  simp only [Value.slice.injEq,true_and] at e'
  obtain ⟨rfl,rfl⟩:=e'
  unfold maxLen at hc2
  obtain ⟨hjn,htot⟩:=HF.out.join k hkl
  have HWd:=Hid.intro (HF.out.wide k hkl)
  obtain ⟨bl,offl,cl',ul,el,hl1,hl2,hlb,hlx,hls⟩:=HJr.out.get (i:=k) hkl
  simp only [Value.slice.injEq,true_and] at el
  obtain ⟨rfl,rfl⟩:=el
  have HCe:=Hid.intro (HCel.out k hkc)
  generalize LL.getD k []=ln at hls hjn htot HWd
  obtain ⟨au,cu,rfl,hlnl⟩:=At.form hls
  unfold maxLen at hl2 hlnl
  generalize (gOf t).cells.getD k dG=xc at hx hgo hjn HWd HCe
  obtain ⟨x0,x1,x2,x3,x4⟩:=hx
  have hgb:=(Array.getElem?_eq_some_iff.1 HGr.out.2.2).1
  have htb:=(Array.getElem?_eq_some_iff.1 HGr.out.1.2.2).1
  have hne:=bw_some wr
  obtain ⟨m7,m8,m9,m10,m11⟩:=cellsL5 HGr.out.1.2.2 htb
  have m0:=bw_cell (a:=⟨gb,2,none⟩) hgb y2
  have m1:=bw_cell hbl x0
  have m2:=bw_cell hbl x1
  have m3:=bw_cell hbl x2
  have m4:=bw_cell hbl x3
  have m5:=bw_cell hbl x4
  have m6:=bw_cell (a:=⟨bl,offl+k,none⟩) hlb hlx
  have KJ:=Hid.intro (fun (p:BW wr)=>bw_of (implTxtJoin (.slice au ln.length cu) ln htot p.u (hls.kept p.h)))
  have KT:=Hid.intro (fun (p:BW wr)=>bw_of ((lawspwText ac ar cc cr t xc HCe.out p.u (HGr.out.kept p.h).1.2.1.2).mono (fun _ _ ⟨h1,_,h2⟩=>And.intro h1 h2)))
  rw [hjn] at KJ
  generalize textOf t xc=s at KJ KT
  have t1:(k:Int) < ((gOf t).cells.length:Int):=by omega
  have HLn:=Hid.intro hls
  clear hjn htot y0 y1 y2
  go_upto_region 12 with fail
  refine wp_region_quiet_below hmx (by kernel_rfl) ?_
  repeat (go_big_quiet_step (first | (go_at_call 30;refine KJ.out _) | (go_at_call 31;refine KT.out _)))
  refine wpQuiet_nil ?_
  intro W9 hw'
  obtain ⟨⟨Wx,hW9⟩,hw''⟩:=hw'
  subst hw''
  have HB9:=Hid.intro (k_trans HB.out hW9)
  have HG9:=Hid.intro (HGr.out.kept hW9)
  have HI9:=Hid.intro (HIr.out.kept hW9)
  have HL9:=Hid.intro (HLn.out.kept hW9)
  have q0:=(hW9.cell (p:=⟨bl,offl+k,none⟩) hlb).trans hlx
  have hlb9:=Nat.lt_of_lt_of_le hlb hW9.size
  have hbl9:=Nat.lt_of_lt_of_le hbl hW9.size
  have X9:=Hid.intro (And.intro ((hW9.cell hbl).trans x0) (And.intro ((hW9.cell hbl).trans x1) (And.intro ((hW9.cell hbl).trans x2) (And.intro ((hW9.cell hbl).trans x3) ((hW9.cell hbl).trans x4)))))
  clear m0 m1 m2 m3 m4 m5 m6 m7 m8 m9 m10 m11 hne hW9 KJ KT hls HLn HGr HIr HJr hlx x0 x1 x2 x3 x4 hgb htb
  go_wp2_with fail
  go_loopw [9] (fun s W=>∃ j:Nat,s=.int .i64 j∧j≤ln.length∧Hid (Below W9.heap.size W9 W)) (fun s _=>ln.length - (intOf s).toNat)
  case atStart=>exact ⟨0,rfl,Nat.zero_le _,Below.refl _ _⟩
  case round=>as_aux_lemma =>
   obtain ⟨j,rfl,hj,HBj⟩:=hrel
   have p0:=(HBj.out.cell (p:=⟨bl,offl+k,none⟩) hlb9).trans q0
   have hlbj:=Nat.lt_of_lt_of_le hlb9 HBj.out.size
   clear q0
   by_cases hjl:j < ln.length
   case neg =>
    obtain rfl:j=ln.length:=by omega
    have HB5:=Hid.intro (HB9.out.trans (HBj.out.mono HB9.out.size))
    go_wp2
    go_roundw
    case rel=>exact ⟨k+1,by go_num,by omega,HB5⟩
    case measure=>simp [intOf];omega
   obtain ⟨bs,offs,caps,es,hcs1,hcs2,hbs,hy,hys⟩:=At.get (HL9.out.kept HBj.out) hjl
   simp only [Value.slice.injEq,true_and] at es
   obtain ⟨rfl,rfl⟩:=es
   rw [Nat.mul_one] at hy
   have hwd:=HWd.out (ln.getD j dS) (getD_mem' (d:=dS) hjl)
   generalize ln.getD j dS=y at hy hys hwd
   unfold maxLen at hcs2 hys
   have HGj:=Hid.intro (HG9.out.kept HBj.out)
   have HIj:=Hid.intro (HI9.out.kept HBj.out)
   obtain ⟨x0,x1,x2,x3,x4⟩:=X9.out
   have hgb:=(Array.getElem?_eq_some_iff.1 HGj.out.2.2).1
   have htb:=(Array.getElem?_eq_some_iff.1 HGj.out.1.2.2).1
   have hblj:=Nat.lt_of_lt_of_le hbl9 HBj.out.size
   obtain ⟨y0,y1,y2⟩:=HGj.out.at
   have hne:=bw_some wr
   obtain ⟨m7,m8,m9,m10,m11⟩:=cellsL5 HGj.out.1.2.2 htb
   have m0:=bw_cell (a:=⟨gb,2,none⟩) hgb y2
   have m1:=bw_cell hblj ((HBj.out.cell hbl9).trans x0)
   have m2:=bw_cell hblj ((HBj.out.cell hbl9).trans x1)
   have m3:=bw_cell hblj ((HBj.out.cell hbl9).trans x2)
   have m4:=bw_cell hblj ((HBj.out.cell hbl9).trans x3)
   have m5:=bw_cell hblj ((HBj.out.cell hbl9).trans x4)
   have m6:=bw_cell (a:=⟨bl,offl+k,none⟩) hlbj p0
   have m12:=bw_cell (a:=⟨bs,offs+j,none⟩) hbs hy
   have KW:=Hid.intro (fun (p:BW wr)=>bw_of (implWidCell (.slice al WL.length cl) WL hWn t.gap xc hgo p.u (HIj.out.kept p.h)))
   generalize cellV WL t.gap xc=q at KW hwd
   have t2:(j:Int) < (ln.length:Int):=by omega
   clear x0 x1 x2 x3 x4 y0 y1 y2 hy
   go_upto_region 17 with fail
   clear p0
   refine wp_region_quiet_below hmx (by kernel_rfl) ?_
   repeat (go_big_quiet_step (first | (go_at_call 32;refine KW.out _)))
   refine wpQuiet_nil ?_
   intro W11 hw'
   obtain ⟨⟨Wy,hW11⟩,hw''⟩:=hw'
   subst hw''
   have HB11:=Hid.intro (k_trans HBj.out hW11)
   clear m0 m1 m2 m3 m4 m5 m6 m7 m8 m9 m10 m11 m12 hne hW11 KW
   go_wp2
   go_roundw
   case rel=>exact ⟨j+1,by go_num,by omega,HB11⟩
   case measure=>simp [intOf];omega

theorem lawHgtLines (a:Option Addr) (len cap:Nat) (w:World) (h:IsCode w a len cap) :
  Calls Tryz.prog 6 #[.slice a len cap] w fun e w'=>e=.returned (.bool true)∧Below w.heap.size w w':=by
 by_cases hl:len≤1048576
 ·exact lawHL_walk a len cap hl w h
 ·have hl':(1048576:Int) < (len:Int):=by omega
  clear h
  go_enter Tryz.func6,Tryz.ntmps6
  go_wp2
  go_ret
  exact ⟨rfl,Below.refl _ _⟩
end Go.Proofs.YtcbibdhlkdcmiafGreat
