/-
  PROVED HERE: a code that lies in memory stays where it is; a table abides five stores ahead of it: for the texts that draw a table. Also: 1 more texts of the same proof.
-/
import Derived.Test.YtggmjiddadjilamB18
set_option maxRecDepth 1000000
set_option maxHeartbeats 40000000
namespace Go.Proofs.Ytggmjiddadjilam
open Go.RowKit
theorem z1e.kept {w w':World} {a:Option Addr} {len cap:Nat} (h:z1e w a len cap) (hb:Below w.heap.size w w'):z1e w' a len cap:=by
 obtain ⟨h1,h2,hc⟩:=h;refine ⟨h1,h2,fun i hi=>?_⟩;obtain ⟨b,off,z,e,l,c,z0,z1⟩:=hc i hi;exact ⟨b,off,z,e,Nat.lt_of_lt_of_le l hb.size,(hb.cell (p:=⟨b,off+i,none⟩) l).trans c,z0,z1⟩
theorem zX.st5 {w:World} {z g:Nat} (hg:g < z) (y0 y1 y2 y3 y4:Value):zX z w (st5 w g y0 y1 y2 y3 y4):=⟨(z0Z w g y0 y1 y2 y3 y4).size,fun k hk hl=>(z0Z w g y0 y1 y2 y3 y4).block k hl (by omega)⟩
theorem z3E (a:Option Addr) (len cap:Nat) (w:World) (h:z1e w a len cap) :
  Calls Try.prog 7 #[.slice a len cap] w fun e w'=>∃ (ac ar:Option Addr) (cc cr:Nat) (t:T),e=.returned (.agg #[.slice ac t.cols.length cc,.int .i64 t.head,.int .i64 t.foot,.slice ar t.rows.length cr,.int .i64 t.gap])∧z0o t ∧
   zY w' w.heap.size (.slice ac t.cols.length cc) t.cols∧zD w' w.heap.size (.slice ar t.rows.length cr) t.rows∧Below w.heap.size w w':=by
 have K0:=zb (Below.refl w.heap.size w) (.cells #[.slice none 0 0,.int .i64 0,.int .i64 0,.slice none 0 0,.int .i64 0] 26);have HC:=Hd (h.kept K0);have X0:=zf w (.cells #[.slice none 0 0,.int .i64 0,.int .i64 0,.slice none 0 0,.int .i64 0] 26);clear h;have hsz:(w.alloc (.cells #[.slice none 0 0,.int .i64 0,.int .i64 0,.slice none 0 0,.int .i64 0] 26)).heap.size=w.heap.size+1:=(by simp);go_enter Try.func7,Try.ntmps7;go_wp2_with fail
 refine (z6c _ _ _ _ HC.out).mono ?_;rintro e w1 ⟨rfl,hR1,hb1⟩;rw [hsz] at hR1 hb1;have X1:=(hb1.block w.heap.size (by omega)).trans X0;have K1:=ze K0 (by rw [hsz];exact hb1);have hz1:=hR1.lt;go_wp2_with fail
 refine (z3y (w.heap.size+1) 0 16 (by omega) _ hR1 (by omega)).mono ?_;rintro e w2 ⟨ac,ar,cc,cr,t,rfl,hD,hC2,hW2,hR2,hb2⟩;have X2:=(hb2.block w.heap.size (by omega) (by omega)).trans X1;have K2:=K1.trans (hb2.below (by omega) (by omega));have hz2:w.heap.size+1 < w2.heap.size:=hR2.lt;have hw1:w.heap.size+2≤w1.heap.size:=(by omega);have HC3:=Hd ((hC2.base hw1).since (zX.st5 (z:=w.heap.size+2) (g:=w.heap.size) (by omega) (.slice ac t.cols.length cc) (.int .i64 t.head) (.int .i64 t.foot) (.slice ar t.rows.length cr) (.int .i64 t.gap)));have HW3:=Hd ((hW2.base hw1).since (zX.st5 (z:=w.heap.size+2) (g:=w.heap.size) (by omega) (.slice ac t.cols.length cc) (.int .i64 t.head) (.int .i64 t.foot) (.slice ar t.rows.length cr) (.int .i64 t.gap)));have K3:=Hd (K2.trans ((z0Z w2 w.heap.size (.slice ac t.cols.length cc) (.int .i64 t.head) (.int .i64 t.foot) (.slice ar t.rows.length cr) (.int .i64 t.gap)).below (by omega) (Nat.le_refl _)));have HD:=Hd hD;obtain ⟨⟨x0,x1,x2,x3,x4⟩,y0,y1,y2,y3,y4⟩:=z0c X2;clear hC2 hW2 hR2 hb2 X2 X1 X0 K0 K1 K2 hD HC hR1 hb1;go_wp2;exact bodyPost_ret (v:=.agg #[.slice ac t.cols.length cc,.int .i64 t.head,.int .i64 t.foot,.slice ar t.rows.length cr,.int .i64 t.gap]) (by simp [results,Try.results7,go_sem,x0,x1,x2,x3,x4]) rfl ⟨ac,ar,cc,cr,t,rfl,HD.out,HC3.out.base (by omega),HW3.out.base (by omega),K3.out⟩
end Go.Proofs.Ytggmjiddadjilam
