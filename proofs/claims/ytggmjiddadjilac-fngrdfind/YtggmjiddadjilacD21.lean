/-
  PROVED HERE: a drawn grid, put into a result's own box. Also: DrawGrdFind draws a grid and two numbers; nothing that was in memory is turned. Also: the law FnGrdFind returns true at every code that lies in memory.
-/
import Derived.Test.YtggmjiddadjilacD19
import Derived.Test.YtggmjiddadjilacD20
import Derived.Test.YtggmjiddadjilacD15
import Derived.Test.YtggmjiddadjilacD6
import Derived.Deep.DeepCutAuto
import Derived.Deep.RegionWith
import Derived.Deep.LoopGhost
namespace Go.Proofs.Ytggmjiddadjilac
open Go.RowKit

theorem code_kept {w w':World} {a:Option Addr} {len cap:Nat} (h:IsCode w a len cap) (hb:Below w.heap.size w w'):IsCode w' a len cap:=by
 obtain ⟨h1,h2,hc⟩:=h
 refine ⟨h1,h2,fun i hi=>?_⟩
 obtain ⟨b,off,z,e,l,c,z0,z1⟩:=hc i hi
 exact ⟨b,off,z,e,Nat.lt_of_lt_of_le l hb.size,(hb.cell (p:=⟨b,off+i,none⟩) l).trans c,z0,z1⟩
/-- three stores into a box -/
def st3 (w:World) (g:Nat) (y0 y1 y2:Value):World:=((w.setCell ⟨g,0,none⟩ y0).setCell ⟨g,1,none⟩ y1).setCell ⟨g,2,none⟩ y2
theorem st3_bk (w:World) (g:Nat) (y0 y1 y2:Value):Bk g w (st3 w g y0 y1 y2):=(((Bk.refl g w).set (p:=⟨g,0,none⟩) (.inl rfl) y0).set (p:=⟨g,1,none⟩) (.inl rfl) y1).set (p:=⟨g,2,none⟩) (.inl rfl) y2
/-- a grid drawn -/
structure GFacts (w w':World) (va:Option Addr) (vq:Nat) (g:G):Prop where
 at':GsAt w' w.heap.size (.slice va g.cells.length vq) g.cells
 rows:I64 g.rows
 cols:I64 g.cols
 few:g.cells.length≤41
 below:Below w.heap.size w w'
def GrdPost (w:World) (e:Ending) (w':World):Prop:=∃ (va:Option Addr) (vq:Nat) (g:G),e=.returned (.agg #[.int .i64 g.rows,.int .i64 g.cols,.slice va g.cells.length vq])∧GFacts w w' va vq g
theorem grd_facts {w w2:World} {z:Nat} {va:Option Addr} {vq:Nat} {g:G} (hG:GsAt w2 z (.slice va g.cells.length vq) g.cells) (hz:w.heap.size < z) (K:Below w.heap.size w w2) (hIr:I64 g.rows) (hIc:I64 g.cols) (hlen:g.cells.length≤41) (y0 y1 y2:Value) :
  GFacts w (((w2.setCell ⟨w.heap.size,0,none⟩ y0).setCell ⟨w.heap.size,1,none⟩ y1).setCell ⟨w.heap.size,2,none⟩ y2) va vq g:=by
 have hk:=st3_bk w2 w.heap.size y0 y1 y2
 have hs:Since z w2 (st3 w2 w.heap.size y0 y1 y2):=⟨hk.size,fun k hk2 hl=>hk.block k hl (by omega)⟩
 exact ⟨(hG.since hs).base (by omega),hIr,hIc,hlen,K.trans (hk.below K.size (Nat.le_refl _))⟩
/-- a grid in its box all along a law -/
structure SGd (w:World) (gb:Nat) (va:Option Addr) (vq:Nat) (g:G) (W:World):Prop where
 below:Below w.heap.size w W
 at':GsAt W w.heap.size (.slice va g.cells.length vq) g.cells
 box:W.heap[gb]?=some (.cells #[.int .i64 g.rows,.int .i64 g.cols,.slice va g.cells.length vq] 25)
theorem SGd.kept {w W W':World} {gb:Nat} {va:Option Addr} {vq:Nat} {g:G} (h:SGd w gb va vq g W) (k:Below W.heap.size W W'):SGd w gb va vq g W' :=
 ⟨k_trans h.below k,h.at'.kept k,(k.block gb (Array.getElem?_eq_some_iff.1 h.box).1).trans h.box⟩
theorem SGd.cells {w W:World} {gb:Nat} {va:Option Addr} {vq:Nat} {g:G} (h:SGd w gb va vq g W):W.cell? ⟨gb,0,none⟩=some (.int .i64 g.rows)∧W.cell? ⟨gb,1,none⟩=some (.int .i64 g.cols)∧W.cell? ⟨gb,2,none⟩=some (.slice va g.cells.length vq):=⟨cellB h.box,cellB h.box,cellB h.box⟩
theorem SGd.lt {w W:World} {gb:Nat} {va:Option Addr} {vq:Nat} {g:G} (h:SGd w gb va vq g W):gb < W.heap.size:=(Array.getElem?_eq_some_iff.1 h.box).1
theorem SGd.mk' {w w1:World} {va:Option Addr} {vq:Nat} {g:G} (F:GFacts w w1 va vq g):SGd w w1.heap.size va vq g (w1.alloc (.cells #[.int .i64 g.rows,.int .i64 g.cols,.slice va g.cells.length vq] 25)) :=
 ⟨k_alloc F.below _,F.at'.kept (k_alloc (Below.refl _ _) _),newestB _ _⟩
end Go.Proofs.Ytggmjiddadjilac
namespace Go.Proofs.Ytggmjiddadjilac
open Go.RowKit

set_option maxRecDepth 100000 in
set_option maxHeartbeats 1000000 in
theorem dGrdFind_any (a:Option Addr) (len cap:Nat) (w:World) (h:IsCode w a len cap) :
  Calls Try.prog 15 #[.slice a len cap] w fun e w'=>∃ (va:Option Addr) (vq:Nat) (g:G) (row ins:Int),e=.returned (.tuple #[.agg #[.int .i64 g.rows,.int .i64 g.cols,.slice va g.cells.length vq],.int .i64 row,.int .i64 ins])∧GFacts w w' va vq g∧∀ x ∈ g.cells,x.row ≠ 99:=by
 have K0:=k_alloc (Below.refl w.heap.size w) (.cells #[.int .i64 0,.int .i64 0,.slice none 0 0] 25)
 have HC:=Hid.intro (code_kept h K0)
 have X0:=newestB w (.cells #[.int .i64 0,.int .i64 0,.slice none 0 0] 25)
 clear h
 have hsz:(w.alloc (.cells #[.int .i64 0,.int .i64 0,.slice none 0 0] 25)).heap.size=w.heap.size+1:=by simp
 go_enter Try.func15,Try.ntmps15
 go_wp2_with fail
 refine (open_any _ _ _ _ HC.out).mono ?_
 rintro e w1 ⟨rfl,hR1,hb1⟩
 rw [hsz] at hR1 hb1
 have X1:=(hb1.block w.heap.size (by omega)).trans X0
 have K1:=k_trans K0 (by rw [hsz];exact hb1)
 have hz1:=hR1.lt
 go_wp2_with fail
 refine (l20Grid_any (w.heap.size+1) 0 12 (by omega) _ hR1 (by omega)).mono ?_
 rintro e w2 ⟨va,vq,g,rfl,hG,hIr,hIc,hlen,hR2,hb2,h99⟩
 go_wp2_with fail
 refine (pick_any (w.heap.size+1) _ 7 _ hR2 (by omega)).mono ?_
 rintro e w3 ⟨row,rfl,_,hR3,hb3⟩
 go_wp2_with fail
 refine (pick_any (w.heap.size+1) _ 5 _ hR3 (by omega)).mono ?_
 rintro e w4 ⟨ins,rfl,_,hR4,hb4⟩
 have hbb:=hb3.trans hb4
 have hz2:w.heap.size+1 < w2.heap.size:=hR2.lt
 have hG4:=hG.since (w':=w4) ⟨hbb.size,fun q h1 h2=>hbb.block q h2 (by omega)⟩
 have hb5:=hb2.trans hbb
 have X2:=(hb5.block w.heap.size (by omega) (by omega)).trans X1
 have K2:=K1.trans (hb5.below (by omega) (by omega))
 have HP:=Hid.intro (grd_facts hG4 (by omega) K2 hIr hIc hlen (.int .i64 g.rows) (.int .i64 g.cols) (.slice va g.cells.length vq))
 have H99:=Hid.intro h99
 obtain ⟨⟨x0,x1,x2⟩,y0,y1,y2⟩:=threeZ X2
 clear h99 hG hR2 hb2 X2 X1 X0 K0 K1 K2 HC hR1 hb1 hG4 hb3 hb4 hbb hb5 hR3 hR4
 go_wp2
 exact bodyPost_ret (v:=.tuple #[.agg #[.int .i64 g.rows,.int .i64 g.cols,.slice va g.cells.length vq],.int .i64 row,.int .i64 ins]) (by simp [results,Try.results15,go_sem,x0,x1,x2]) rfl ⟨va,vq,g,row,ins,rfl,HP.out,H99.out⟩
end Go.Proofs.Ytggmjiddadjilac
namespace Go.Proofs.Ytggmjiddadjilac
open Go.RowKit

theorem find_some (p:GC→Bool) (gs:List GC):findTo p gs=-1∨∃ n:Nat,n < gs.length∧findTo p gs=(n:Int)∧p (gs.getD n dG)=true:=by
 unfold findTo
 cases h:gs.findIdx? p with
 | none=>exact .inl rfl
 | some k =>
  rw [List.findIdx?_eq_some_iff_getElem] at h
  obtain ⟨hk,hp,_⟩:=h
  exact .inr ⟨k,hk,rfl,by simp [List.getD,hk,hp]⟩
theorem find_self (gs:List GC) {i:Nat} (hi:i < gs.length):∃ n:Nat,n≤i∧findTo (isIn (gs.getD i dG).row (gs.getD i dG).ins) gs=(n:Int)∧(gs.getD n dG).row=(gs.getD i dG).row∧(gs.getD n dG).ins=(gs.getD i dG).ins:=by
 unfold findTo
 cases h:gs.findIdx? (isIn (gs.getD i dG).row (gs.getD i dG).ins) with
 | none =>
  rw [List.findIdx?_eq_none_iff] at h
  have:=h (gs.getD i dG) (by simp [List.getD,hi])
  simp [isIn] at this
 | some k =>
  rw [List.findIdx?_eq_some_iff_getElem] at h
  obtain ⟨hk,hp,hj⟩:=h
  refine ⟨k,?_,rfl,?_,?_⟩
  ·rcases Nat.lt_or_ge i k with h1 | h1
   ·have:=hj i h1
    simp [isIn,List.getD,hi] at this
   ·exact h1
  ·simp [isIn,List.getD,hi] at hp
   simp [List.getD,hi,hk,hp.1]
  ·simp [isIn,List.getD,hi] at hp
   simp [List.getD,hi,hk,hp.2]
theorem find_99 {gs:List GC} (h:∀ x ∈ gs,x.row ≠ 99):findTo (isIn 99 0) gs=-1:=by
 refine findTo_none (fun i hi=>?_)
 have:=h (gs.getD i dG) (by simp [List.getD,hi])
 unfold isIn
 rw [beq_eq_false_iff_ne.2 this,Bool.false_and]

set_option maxRecDepth 100000 in
set_option maxHeartbeats 2000000 in
theorem lawGrdFind_walk (A:Option Addr) (len cap:Nat) (hlen:len≤1048576) (w:World) (h:IsCode w A len cap) :
  Calls Try.prog 4 #[.slice A len cap] w fun e w'=>e=.returned (.bool true)∧Below w.heap.size w w':=by
 have hl:¬ (1048576:Int) < (len:Int):=by omega
 have hmx:Try.prog.follows .mixedOrders=true:=by kernel_rfl
 have HD:=Hid.intro h
 clear h
 go_enter Try.func4,Try.ntmps4
 go_wp2_with fail
 refine (dGrdFind_any _ _ _ _ HD.out).mono ?_
 rintro e w1 ⟨va,vq,g,row,ins,rfl,F,h99⟩
 have H99:=Hid.intro (find_99 h99)
 have hfew:=F.few
 have HS:=Hid.intro (SGd.mk' F)
 clear F HD h99
 obtain ⟨W1,hW1⟩:∃ W1,w1.alloc (.cells #[.int .i64 g.rows,.int .i64 g.cols,.slice va g.cells.length vq] 25)=W1:=⟨_,rfl⟩
 rw [hW1] at HS
 generalize hgb:w1.heap.size=gb at HS
 go_upto_region 4 with fail
 clear hW1 hgb
 obtain ⟨q0,q1,q2⟩:=HS.out.cells
 go_wp2_with fail
 refine (implGrdFind g.rows g.cols va vq g.cells row ins W1 HS.out.at').mono ?_
 rintro e W2 ⟨rfl,hb2⟩
 replace HS:=Hid.intro (HS.out.kept hb2)
 clear hb2 q0 q1 q2
 go_upto_region 5 with fail
 have KS:=Hid.intro (specGrdFind g.rows g.cols va vq g.cells row ins W2 HS.out.at')
 have HF:=Hid.intro (find_some (isIn row ins) g.cells)
 generalize findTo (isIn row ins) g.cells=K at *
 obtain ⟨q0,q1,q2⟩:=HS.out.cells
 have e1:(K != K)=false:=by simp
 go_wp2_with fail
 refine KS.out.mono ?_
 rintro e W3 ⟨rfl,hb3⟩
 replace HS:=Hid.intro (HS.out.kept hb3)
 clear hb3 q0 q1 q2 KS
 have HS0:=HS
 go_wp2_with fail
 go_loopw [7] (fun s7 W=>∃ i:Nat,s7=.int .i64 i∧i≤g.cells.length∧Hid (SGd w gb va vq g W)) (fun s7 _=>g.cells.length - (intOf s7).toNat)
 case atStart=>exact ⟨0,rfl,Nat.zero_le _,HS0⟩
 case round=>as_aux_lemma =>
  clear HS HS0 e1
  obtain ⟨i,rfl,hi,HS⟩:=hrel
  obtain ⟨q0,q1,q2⟩:=HS.out.cells
  by_cases hlt:i < g.cells.length
  case neg =>
   obtain rfl:i=g.cells.length:=by omega
   have KA:=Hid.intro (implGrdFind g.rows g.cols va vq g.cells 99 0 _ HS.out.at')
   rw [H99.out] at KA
   go_wp2_with fail
   refine KA.out.mono ?_
   rintro e W5 ⟨rfl,hb5⟩
   replace HS:=Hid.intro (HS.out.kept hb5)
   clear hb5 q0 q1 q2 KA
   obtain ⟨q0,q1,q2⟩:=HS.out.cells
   rcases HF.out with hK | ⟨n,hn,hK,hp⟩
   ·subst hK
    go_wp2_with fail
    refine (pwOk_any _).mono ?_
    rintro e w5 ⟨rfl,rfl⟩
    go_wp2
    go_ret
    exact ⟨rfl,HS.out.below⟩
   ·subst hK
    obtain ⟨q,off,cap',e',hc1,hc2,hbq,hx,hs⟩:=At.get HS.out.at' hn
    simp only [Value.slice.injEq,true_and] at e'
    obtain ⟨rfl,rfl⟩:=e'
    generalize g.cells.getD n dG=x at *
    obtain ⟨x0,x1,x2,x3,x4⟩:=hx
    simp only [isIn,Bool.and_eq_true] at hp
    obtain ⟨hp1,hp2⟩:=hp
    have hn1:((n:Int) == -1)=false:=beq_eq_false_iff_ne.2 (by omega)
    unfold maxLen at hc2
    clear hs x1 x2 x3 HF
    go_wp2_with fail
    refine (pwOk_any _).mono ?_
    rintro e w5 ⟨rfl,rfl⟩
    go_wp2
    go_ret
    exact ⟨rfl,HS.out.below⟩
  obtain ⟨n,hn,hfn,hr,hs'⟩:=find_self g.cells hlt
  obtain ⟨q,off,cap',e',hc1,hc2,hbq,hx,hs⟩:=At.get HS.out.at' hlt
  obtain ⟨qn,offn,capn,en,hd1,hd2,hbn,hy,hsn⟩:=At.get HS.out.at' (show n < g.cells.length by omega)
  simp only [Value.slice.injEq,true_and] at e' en
  obtain ⟨rfl,rfl⟩:=e'
  simp only [Option.some.injEq,Addr.mk.injEq,and_true] at en
  obtain ⟨⟨rfl,rfl⟩,rfl⟩:=en
  have KA:=Hid.intro (fun (p:BW wr)=>bw_of (implGrdFind g.rows g.cols (some ⟨q,off,none⟩) vq g.cells (g.cells.getD i dG).row (g.cells.getD i dG).ins p.u (HS.out.kept p.h).at'))
  rw [hfn] at KA
  clear hfn
  obtain ⟨y0,y1,y2,y3,y4⟩:=hy
  rw [hr] at y0
  rw [hs'] at y4
  clear hr hs' y1 y2 y3 hs hsn HF H99
  generalize g.cells.getD i dG=x at *
  obtain ⟨x0,x1,x2,x3,x4⟩:=hx
  clear x1 x2 x3
  unfold maxLen at hc2
  clear hd2
  go_upto_region 10 with fail
  have m0:=bw_cell (a:=⟨gb,0,none⟩) HS.out.lt q0
  have m1:=bw_cell (a:=⟨gb,1,none⟩) HS.out.lt q1
  have m2:=bw_cell (a:=⟨gb,2,none⟩) HS.out.lt q2
  have m3:=bw_cell hbq x0
  have m4:=bw_cell hbq x4
  have HY:=Hid.intro (And.intro (And.intro hbq x0) (And.intro x4 (And.intro y0 y4)))
  clear x0 x4 y0 y4 q0 q1 q2
  have hne:=bw_some wr
  refine wp_region_quiet_below hmx (by kernel_rfl) ?_
  repeat (go_big_quiet_step (first | (go_at_call 16;refine KA.out _)))
  refine wpQuiet_nil ?_
  intro W3 hw'
  obtain ⟨⟨Wx,hW3⟩,hw''⟩:=hw'
  subst hw''
  replace HS:=Hid.intro (HS.out.kept hW3)
  have HZ:=Hid.intro (And.intro ((hW3.cell (by exact hbq)).trans HY.out.1.2) (And.intro ((hW3.cell (by exact hbq)).trans HY.out.2.1) (And.intro ((hW3.cell (by exact hbq)).trans HY.out.2.2.1) ((hW3.cell (by exact hbq)).trans HY.out.2.2.2))))
  have hbq3:q < W3.heap.size:=Nat.lt_of_lt_of_le hbq hW3.size
  clear m0 m1 m2 m3 m4 hne KA hW3 HY hbq
  go_upto_region 11 with fail
  obtain ⟨q0,q1,q2⟩:=HS.out.cells
  have m2:=bw_cell (a:=⟨gb,2,none⟩) HS.out.lt q2
  have m3:=bw_cell (by exact hbq3) HZ.out.1
  have m4:=bw_cell (by exact hbq3) HZ.out.2.1
  have m5:=bw_cell (by exact hbq3) HZ.out.2.2.1
  have m6:=bw_cell (by exact hbq3) HZ.out.2.2.2
  have hne:=bw_some W3
  have hn0:¬ ((n:Int) < 0):=by omega
  have hni:(i < n)=False:=by simp;omega
  have hnl:n < g.cells.length:=by omega
  have exx:(x.row != x.row)=false:=by simp
  have eii:(x.ins != x.ins)=false:=by simp
  clear q0 q1 q2
  refine wp_region_quiet_below hmx (by kernel_rfl) ?_
  repeat (go_big_quiet_step (fail))
  refine wpQuiet_nil ?_
  intro W4 hw'
  obtain ⟨⟨Wy,hW4⟩,hw''⟩:=hw'
  subst hw''
  replace HS:=Hid.intro (HS.out.kept hW4)
  clear m2 m3 m4 m5 m6 hne hW4 HZ exx eii
  go_wp2
  go_roundw
  case rel=>exact ⟨i+1,by go_num,by omega,HS⟩
  case measure=>simp [intOf];omega
theorem lawGrdFind (A:Option Addr) (len cap:Nat) (w:World) (h:IsCode w A len cap) :
  Calls Try.prog 4 #[.slice A len cap] w fun e w'=>e=.returned (.bool true)∧Below w.heap.size w w':=by
 by_cases hl:len≤1048576
 ·exact lawGrdFind_walk A len cap hl w h
 ·have hl':(1048576:Int) < (len:Int):=by omega
  go_enter Try.func4,Try.ntmps4
  go_wp2
  go_ret
  exact ⟨rfl,Below.refl _ _⟩
end Go.Proofs.Ytggmjiddadjilac
