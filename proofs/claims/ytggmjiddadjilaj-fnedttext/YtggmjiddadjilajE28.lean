/-
  PROVED HERE: DrawEdtText draws a table, a row, a place and a text; nothing that was in memory is turned. Also: what the program's TblCells answers at a table that lies in memory: how many cells rows have together; nothing that was in memory is turned.
-/
import Derived.Test.YtggmjiddadjilajE17
import Derived.Test.YtggmjiddadjilajE23
namespace Go.Proofs.Ytggmjiddadjilaj
open Go.RowKit

theorem IsCode.keptX {w w':World} {a:Option Addr} {len cap:Nat} (h:IsCode w a len cap) (hb:Below w.heap.size w w'):IsCode w' a len cap:=by
 obtain ⟨h1,h2,hc⟩:=h
 refine ⟨h1,h2,fun i hi=>?_⟩
 obtain ⟨b,off,z,e,l,c,z0,z1⟩:=hc i hi
 exact ⟨b,off,z,e,Nat.lt_of_lt_of_le l hb.size,(hb.cell (p:=⟨b,off+i,none⟩) l).trans c,z0,z1⟩
/-- a table that lies in memory abides five stores into a block that was there ahead of it -/
theorem Since.st5x {w:World} {z g:Nat} (hg:g < z) (y0 y1 y2 y3 y4:Value):Since z w (st5 w g y0 y1 y2 y3 y4):=⟨(st5_bk w g y0 y1 y2 y3 y4).size,fun k hk hl=>(st5_bk w g y0 y1 y2 y3 y4).block k hl (by omega)⟩

set_option maxRecDepth 100000 in
set_option maxHeartbeats 1000000 in
theorem drawEdtText_any (a:Option Addr) (len cap:Nat) (w:World) (h:IsCode w a len cap) :
  Calls Try.prog 23 #[.slice a len cap] w fun e w'=>∃ (ac ar:Option Addr) (cc cr:Nat) (t:T) (q u:Int) (s:ByteArray),e=.returned (.tuple #[.agg #[.slice ac t.cols.length cc,.int .i64 t.head,.int .i64 t.foot,.slice ar t.rows.length cr,.int .i64 t.gap],.int .i64 q,.int .i64 u,.string s])∧Drawn t∧(0≤q∧q≤4)∧(0≤u∧u≤3)∧s.size≤61 ∧
   ColsAt w' w.heap.size (.slice ac t.cols.length cc) t.cols∧RowsAt w' w.heap.size (.slice ar t.rows.length cr) t.rows∧Below w.heap.size w w':=by
 have K0:=k_alloc (Below.refl w.heap.size w) (.cells #[.slice none 0 0,.int .i64 0,.int .i64 0,.slice none 0 0,.int .i64 0] 37)
 have HC:=Hid.intro (h.keptX K0)
 have X0:=newestB w (.cells #[.slice none 0 0,.int .i64 0,.int .i64 0,.slice none 0 0,.int .i64 0] 37)
 clear h
 have hsz:(w.alloc (.cells #[.slice none 0 0,.int .i64 0,.int .i64 0,.slice none 0 0,.int .i64 0] 37)).heap.size=w.heap.size+1:=by simp
 go_enter Try.func23,Try.ntmps23
 go_wp2_with fail
 refine (open_any _ _ _ _ HC.out).mono ?_
 rintro e w1 ⟨rfl,hR1,hb1⟩
 rw [hsz] at hR1 hb1
 have X1:=(hb1.block w.heap.size (by omega)).trans X0
 have K1:=k_trans K0 (by rw [hsz];exact hb1)
 have hz1:=hR1.lt
 go_wp2_with fail
 refine (l20AnyTable_any (w.heap.size+1) 0 16 (by omega) _ hR1 (by omega)).mono ?_
 rintro e w2 ⟨ac,ar,cc,cr,t,rfl,hD,hC2,hW2,hR2,hb2⟩
 have X2:=(hb2.block w.heap.size (by omega) (by omega)).trans X1
 have K2:=K1.trans (hb2.below (by omega) (by omega))
 go_wp2_with fail
 refine (pick_any _ _ _ _ hR2 (by omega)).mono ?_
 rintro e w3 ⟨q,rfl,hq,hR3,hb3⟩
 obtain ⟨q1,q2⟩:=hq (by omega)
 have hz2:w.heap.size+1 < w2.heap.size:=hR2.lt
 have X3:=(hb3.block w.heap.size (by omega) (by omega)).trans X2
 have hz3:w.heap.size+1 < w3.heap.size:=hR3.lt
 have K3a:=K2.trans (hb3.below (by omega) (by omega))
 go_wp2_with fail
 refine (pick_any _ _ _ _ hR3 (by omega)).mono ?_
 rintro e w4 ⟨u,rfl,hu,hR4,hb4⟩
 obtain ⟨u1,u2⟩:=hu (by omega)
 have X4:=(hb4.block w.heap.size (by omega) (by omega)).trans X3
 have hz4:w.heap.size+1 < w4.heap.size:=hR4.lt
 have K3b:=K3a.trans (hb4.below (by omega) (by omega))
 go_wp2_with fail
 refine (l20AnyText_any _ _ 12 (by omega) _ hR4 (by omega)).mono ?_
 rintro e w5 ⟨s,rfl,hss,hR5,hb5⟩
 have X5:=(hb5.block w.heap.size (by omega) (by omega)).trans X4
 have hz5:w.heap.size+1 < w5.heap.size:=hR5.lt
 have hsk:Since (w.heap.size+2) w4 w5:=⟨hb5.size,fun k hk hl=>hb5.block k hl (by omega)⟩
 have hsi:Since (w.heap.size+2) w2 w3:=⟨hb3.size,fun k hk hl=>hb3.block k hl (by omega)⟩
 have hsj:Since (w.heap.size+2) w3 w4:=⟨hb4.size,fun k hk hl=>hb4.block k hl (by omega)⟩
 have hw1:w.heap.size+2≤w1.heap.size:=by omega
 have HC3:=Hid.intro (((((hC2.base hw1).since hsi).since hsj).since hsk).since (Since.st5x (z:=w.heap.size+2) (g:=w.heap.size) (by omega) (.slice ac t.cols.length cc) (.int .i64 t.head) (.int .i64 t.foot) (.slice ar t.rows.length cr) (.int .i64 t.gap)))
 have HW3:=Hid.intro (((((hW2.base hw1).since hsi).since hsj).since hsk).since (Since.st5x (z:=w.heap.size+2) (g:=w.heap.size) (by omega) (.slice ac t.cols.length cc) (.int .i64 t.head) (.int .i64 t.foot) (.slice ar t.rows.length cr) (.int .i64 t.gap)))
 have K3:=Hid.intro ((K3b.trans (hb5.below (by omega) (by omega))).trans ((st5_bk w5 w.heap.size (.slice ac t.cols.length cc) (.int .i64 t.head) (.int .i64 t.foot) (.slice ar t.rows.length cr) (.int .i64 t.gap)).below (by omega) (Nat.le_refl _)))
 have HD:=Hid.intro hD
 obtain ⟨⟨x0,x1,x2,x3,x4⟩,y0,y1,y2,y3,y4⟩:=fiveZ X5
 clear hC2 hW2 hR2 hb2 hR3 hb3 hR4 hb4 hR5 hb5 hsi hsj hsk X5 X4 X3 K3a K3b X2 X1 X0 K0 K1 K2 hD hq hu HC hR1 hb1
 go_wp2
 exact bodyPost_ret (v:=.tuple #[.agg #[.slice ac t.cols.length cc,.int .i64 t.head,.int .i64 t.foot,.slice ar t.rows.length cr,.int .i64 t.gap],.int .i64 q,.int .i64 u,.string s]) (by simp [results,Try.results23,go_sem,x0,x1,x2,x3,x4]) rfl ⟨ac,ar,cc,cr,t,q,u,s,rfl,HD.out,by omega,by omega,hss,HC3.out.base (by omega),HW3.out.base (by omega),K3.out⟩
end Go.Proofs.Ytggmjiddadjilaj
namespace Go.Proofs.Ytggmjiddadjilaj
open Go.RowKit

end Go.Proofs.Ytggmjiddadjilaj
