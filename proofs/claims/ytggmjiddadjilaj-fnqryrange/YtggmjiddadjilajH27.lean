/-
  PROVED HERE: the law FnQryRange returns true at every code that lies in memory.
-/
import Derived.Test.YtggmjiddadjilajH21
import Derived.Test.YtggmjiddadjilajH25
import Derived.Test.YtggmjiddadjilajH26
import Derived.Test.YtggmjiddadjilajH15
import Derived.Test.YtggmjiddadjilajH6
import Derived.Deep.DeepCutAuto
import Derived.Deep.RegionWith
import Derived.Deep.LoopGhost
namespace Go.Proofs.Ytggmjiddadjilaj
open Go.RowKit

set_option maxRecDepth 100000 in
set_option maxHeartbeats 2000000 in
theorem lawQryRange_walk (A:Option Addr) (len cap:Nat) (hlen:len≤1048576) (w:World) (h:IsCode w A len cap) :
  Calls Try.prog 3 #[.slice A len cap] w fun e w'=>e=.returned (.bool true)∧Below w.heap.size w w':=by
 have hl:¬ (1048576:Int) < (len:Int):=by omega
 have hmx:Try.prog.follows .mixedOrders=true:=by kernel_rfl
 have HD:=Hid.intro h
 clear h
 go_enter Try.func3,Try.ntmps3
 go_wp2_with fail
 refine (dQryRange_any _ _ _ _ HD.out).mono ?_
 rintro e w1 ⟨va,vq,g,p,q,rfl,F,hp1,hp2,hq1,hq2⟩
 have hfew:=F.few
 have HS:=Hid.intro (SGd.mk' F)
 clear F HD
 obtain ⟨W1,hW1⟩:∃ W1,w1.alloc (.cells #[.int .i64 g.rows,.int .i64 g.cols,.slice va g.cells.length vq] 25)=W1:=⟨_,rfl⟩
 rw [hW1] at HS
 generalize hgb:w1.heap.size=gb at HS
 go_upto_region 4 with fail
 clear hW1 hgb
 obtain ⟨q0,q1,q2⟩:=HS.out.cells
 have KI:=Hid.intro (fun (a b:Int) (W:World) (h:SGd w gb va vq g W)=>implQryRange g.rows g.cols va vq g.cells a b W h.at')
 have KS:=Hid.intro (fun (a b:Int) (W:World) (h:SGd w gb va vq g W)=>specQryRange g.rows g.cols va vq g.cells a b W h.at')
 have KP:=Hid.intro (KI.out p q W1 HS.out)
 generalize hY:rngF ⟨g.rows,g.cols,g.cells⟩ p q=y at KP
 have HY:=Hid.intro hY
 have HYs:=Hid.intro ((rngF_sym ⟨g.rows,g.cols,g.cells⟩ q p).trans hY)
 clear hY
 go_wp2_with fail
 refine KP.out.mono ?_
 rintro e W2 ⟨rfl,hb2⟩
 replace HS:=Hid.intro ((HS.out.kept hb2).kept (k_alloc (Below.refl _ _) (gO y)))
 have X:=Hid.intro (newestB W2 (gO y))
 clear hb2 q0 q1 q2 KP
 generalize hxb:W2.heap.size=xb at X
 obtain ⟨W3,hW3⟩:∃ W3,W2.alloc (gO y)=W3:=⟨_,rfl⟩
 rw [hW3] at HS X
 go_upto_region 5 with fail
 clear hW3 hxb
 obtain ⟨⟨x0,x1,x2,x3,x4⟩,_⟩:=fiveQ X.out
 obtain ⟨q0,q1,q2⟩:=HS.out.cells
 have hlx:=(Array.getElem?_eq_some_iff.1 X.out).1
 have m0:=bw_cell (a:=⟨gb,0,none⟩) HS.out.lt q0
 have m1:=bw_cell (a:=⟨gb,1,none⟩) HS.out.lt q1
 have m2:=bw_cell (a:=⟨gb,2,none⟩) HS.out.lt q2
 have n0:=bw_cell (a:=⟨xb,0,none⟩) hlx x0
 have n1:=bw_cell (a:=⟨xb,1,none⟩) hlx x1
 have n2:=bw_cell (a:=⟨xb,2,none⟩) hlx x2
 have n3:=bw_cell (a:=⟨xb,3,none⟩) hlx x3
 have n4:=bw_cell (a:=⟨xb,4,none⟩) hlx x4
 have hne:=bw_some W3
 have KA:=Hid.intro (fun (u:BW W3)=>bw_of (by have:=KS.out p q u.u (HS.out.kept u.h);rw [HY.out] at this;exact this))
 have KB:=Hid.intro (fun (u:BW W3)=>bw_of (by have:=KI.out q p u.u (HS.out.kept u.h);rw [HYs.out] at this;exact this))
 have e0:(y.row == y.row)=true:=by simp
 have e1:(y.col == y.col)=true:=by simp
 have e2:(y.rows == y.rows)=true:=by simp
 have e3:(y.cols == y.cols)=true:=by simp
 have e4:(y.ins == y.ins)=true:=by simp
 refine wp_region_quiet_below hmx (by kernel_rfl) ?_
 repeat (go_big_quiet_step (first | (go_at_call 10;refine KA.out _) | (go_at_call 9;refine KB.out _)))
 refine wpQuiet_nil ?_
 intro W4 hw'
 obtain ⟨⟨Wx,hW4⟩,hw''⟩:=hw'
 subst hw''
 replace HS:=Hid.intro (HS.out.kept hW4)
 replace X:=Hid.intro (box_keptQ X.out hW4)
 clear m0 m1 m2 n0 n1 n2 n3 n4 hne KA KB hW4 e0 e1 e2 e3 e4 x0 x1 x2 x3 x4 q0 q1 q2 hlx HYs
 rename World=>W4
 go_upto_region 7 with fail
 obtain ⟨q0,q1,q2⟩:=HS.out.cells
 obtain ⟨ok,hok⟩:∃ ok,okB ⟨g.rows,g.cols,g.cells⟩=ok:=⟨_,rfl⟩
 have KO:=Hid.intro (specGrdOk g.rows g.cols va vq g.cells _ HS.out.at')
 rw [hok] at KO
 cases ok with
 | false =>
  have hy:y=dG:=by rw [← HY.out];exact rngF_no1 hok
  have e0:(y.row == 0)=true:=by rw [hy];rfl
  have e1:(y.col == 0)=true:=by rw [hy];rfl
  have e2:(y.rows == 0)=true:=by rw [hy];rfl
  have e3:(y.cols == 0)=true:=by rw [hy];rfl
  have e4:(y.ins == 0)=true:=by rw [hy];rfl
  clear hy
  go_wp2_with fail
  refine KO.out.mono ?_
  rintro e W5 ⟨rfl,hb5⟩
  replace HS:=Hid.intro (HS.out.kept hb5)
  replace X:=Hid.intro (box_keptQ X.out hb5)
  clear hb5 q0 q1 q2 KO
  obtain ⟨⟨x0,x1,x2,x3,x4⟩,_⟩:=fiveQ X.out
  obtain ⟨q0,q1,q2⟩:=HS.out.cells
  go_wp2_with fail
  refine (pwOk_any _).mono ?_
  rintro e w5 ⟨rfl,rfl⟩
  go_wp2
  go_ret
  exact ⟨rfl,HS.out.below⟩
 | true =>
  by_cases hpa:p < 0
  ·have hy:y=dG:=by rw [← HY.out];exact rngF_no2 (g:=⟨g.rows,g.cols,g.cells⟩) (by simp [inB];omega)
   have e0:(y.row == 0)=true:=by rw [hy];rfl
   have e1:(y.col == 0)=true:=by rw [hy];rfl
   have e2:(y.rows == 0)=true:=by rw [hy];rfl
   have e3:(y.cols == 0)=true:=by rw [hy];rfl
   have e4:(y.ins == 0)=true:=by rw [hy];rfl
   clear hy
   go_wp2_with fail
   refine KO.out.mono ?_
   rintro e W5 ⟨rfl,hb5⟩
   replace HS:=Hid.intro (HS.out.kept hb5)
   replace X:=Hid.intro (box_keptQ X.out hb5)
   clear hb5 q0 q1 q2 KO
   obtain ⟨⟨x0,x1,x2,x3,x4⟩,_⟩:=fiveQ X.out
   obtain ⟨q0,q1,q2⟩:=HS.out.cells
   go_wp2_with fail
   refine (pwOk_any _).mono ?_
   rintro e w5 ⟨rfl,rfl⟩
   go_wp2
   go_ret
   exact ⟨rfl,HS.out.below⟩
  by_cases hpb:(g.cells.length:Int)≤p
  ·have hy:y=dG:=by rw [← HY.out];exact rngF_no2 (g:=⟨g.rows,g.cols,g.cells⟩) (by simp [inB];omega)
   have e0:(y.row == 0)=true:=by rw [hy];rfl
   have e1:(y.col == 0)=true:=by rw [hy];rfl
   have e2:(y.rows == 0)=true:=by rw [hy];rfl
   have e3:(y.cols == 0)=true:=by rw [hy];rfl
   have e4:(y.ins == 0)=true:=by rw [hy];rfl
   clear hy
   go_wp2_with fail
   refine KO.out.mono ?_
   rintro e W5 ⟨rfl,hb5⟩
   replace HS:=Hid.intro (HS.out.kept hb5)
   replace X:=Hid.intro (box_keptQ X.out hb5)
   clear hb5 q0 q1 q2 KO
   obtain ⟨⟨x0,x1,x2,x3,x4⟩,_⟩:=fiveQ X.out
   obtain ⟨q0,q1,q2⟩:=HS.out.cells
   go_wp2_with fail
   refine (pwOk_any _).mono ?_
   rintro e w5 ⟨rfl,rfl⟩
   go_wp2
   go_ret
   exact ⟨rfl,HS.out.below⟩
  by_cases hqa:q < 0
  ·have hy:y=dG:=by rw [← HY.out];exact rngF_no3 (g:=⟨g.rows,g.cols,g.cells⟩) (by simp [inB];omega)
   have e0:(y.row == 0)=true:=by rw [hy];rfl
   have e1:(y.col == 0)=true:=by rw [hy];rfl
   have e2:(y.rows == 0)=true:=by rw [hy];rfl
   have e3:(y.cols == 0)=true:=by rw [hy];rfl
   have e4:(y.ins == 0)=true:=by rw [hy];rfl
   clear hy
   go_wp2_with fail
   refine KO.out.mono ?_
   rintro e W5 ⟨rfl,hb5⟩
   replace HS:=Hid.intro (HS.out.kept hb5)
   replace X:=Hid.intro (box_keptQ X.out hb5)
   clear hb5 q0 q1 q2 KO
   obtain ⟨⟨x0,x1,x2,x3,x4⟩,_⟩:=fiveQ X.out
   obtain ⟨q0,q1,q2⟩:=HS.out.cells
   go_wp2_with fail
   refine (pwOk_any _).mono ?_
   rintro e w5 ⟨rfl,rfl⟩
   go_wp2
   go_ret
   exact ⟨rfl,HS.out.below⟩
  by_cases hqb:(g.cells.length:Int)≤q
  ·have hy:y=dG:=by rw [← HY.out];exact rngF_no3 (g:=⟨g.rows,g.cols,g.cells⟩) (by simp [inB];omega)
   have e0:(y.row == 0)=true:=by rw [hy];rfl
   have e1:(y.col == 0)=true:=by rw [hy];rfl
   have e2:(y.rows == 0)=true:=by rw [hy];rfl
   have e3:(y.cols == 0)=true:=by rw [hy];rfl
   have e4:(y.ins == 0)=true:=by rw [hy];rfl
   clear hy
   go_wp2_with fail
   refine KO.out.mono ?_
   rintro e W5 ⟨rfl,hb5⟩
   replace HS:=Hid.intro (HS.out.kept hb5)
   replace X:=Hid.intro (box_keptQ X.out hb5)
   clear hb5 q0 q1 q2 KO
   obtain ⟨⟨x0,x1,x2,x3,x4⟩,_⟩:=fiveQ X.out
   obtain ⟨q0,q1,q2⟩:=HS.out.cells
   go_wp2_with fail
   refine (pwOk_any _).mono ?_
   rintro e w5 ⟨rfl,rfl⟩
   go_wp2
   go_ret
   exact ⟨rfl,HS.out.below⟩
  obtain ⟨i,rfl⟩:∃ i:Nat,p=i:=⟨p.toNat,by omega⟩
  obtain ⟨j,rfl⟩:∃ j:Nat,q=j:=⟨q.toNat,by omega⟩
  have hi:i < g.cells.length:=by omega
  have hj:j < g.cells.length:=by omega
  have hRF:=rng_facts (g:=⟨g.rows,g.cols,g.cells⟩) hok hi hj
  have h1:=rng_one (g:=⟨g.rows,g.cols,g.cells⟩) hok hi
  have hfit:=ok_fit hok
  obtain ⟨hR8,hC94,hn40⟩:=ok_len hok
  simp only at hfit hR8 hC94 hn40 h1
  rw [HY.out] at hRF
  have HR:=Hid.intro hRF
  have H1:=Hid.intro h1
  have HFt:=Hid.intro hfit
  clear hRF h1 hfit hok hp1 hp2 hq1 hq2
  go_wp2_with fail
  refine KO.out.mono ?_
  rintro e W5 ⟨rfl,hb5⟩
  replace HS:=Hid.intro (HS.out.kept hb5)
  replace X:=Hid.intro (box_keptQ X.out hb5)
  clear hb5 q0 q1 q2 KO
  have HS0:=HS
  have X0:=X
  obtain ⟨q0,q1,q2⟩:=HS.out.cells
  have dd1:decide ((i:Int) < 0)=false:=decide_eq_false (by omega)
  have dd2:decide (g.cells.length≤i)=false:=decide_eq_false (by omega)
  have dd3:decide ((j:Int) < 0)=false:=decide_eq_false (by omega)
  have dd4:decide (g.cells.length≤j)=false:=decide_eq_false (by omega)
  go_wp2_with fail
  try simp only [dd1,dd2,dd3,dd4,Bool.or_self,Bool.false_or,Bool.or_false]
  clear dd1 dd2 dd3 dd4
  go_loopw [7] (fun s7 W=>∃ k:Nat,s7=.int .i64 k∧k≤g.cells.length∧Hid (SGd w gb va vq g W)∧Hid (W.heap[xb]?=some (gO y))) (fun s7 _=>g.cells.length - (intOf s7).toNat)
  case atStart=>exact ⟨0,rfl,Nat.zero_le _,HS0,X0⟩
  case round=>as_aux_lemma =>
   clear HS HS0 X X0 q0 q1 q2
   obtain ⟨k,rfl,hk,HS,X⟩:=hrel
   obtain ⟨q0,q1,q2⟩:=HS.out.cells
   obtain ⟨⟨x0,x1,x2,x3,x4⟩,_⟩:=fiveQ X.out
   have hlx:=(Array.getElem?_eq_some_iff.1 X.out).1
   have hlg:=HS.out.lt
   obtain ⟨⟨f1,f2,f3⟩,f4,f5,f6⟩:=HR.out.fit
   simp only at f3 f6
   by_cases hlt:k < g.cells.length
   case neg =>
    obtain rfl:k=g.cells.length:=by omega
    obtain ⟨b,off,cap',ea,hc1,hc2,hbl,hxc,_⟩:=At.get HS.out.at' hi
    simp only [Value.slice.injEq,true_and] at ea
    obtain ⟨rfl,rfl⟩:=ea
    unfold maxLen at hc2
    have KX:=Hid.intro (KI.out (i:Int) (i:Int) _ HS.out)
    rw [H1.out] at KX
    have hfc:=HFt.out _ (mem_getD hi)
    have HXc:=Hid.intro hxc
    generalize g.cells.getD i dG=c at HXc KX hfc
    clear hxc
    go_wp2_with fail
    refine KX.out.mono ?_
    rintro e W5 ⟨rfl,hb5⟩
    obtain ⟨y0,y1,y2,y3,y4⟩:=(HXc.out.since hbl (Nat.zero_le _) (.of_below hb5):GIs W5 b (off+i * 5) c)
    replace HS:=Hid.intro (HS.out.kept hb5)
    replace X:=Hid.intro (box_keptQ X.out hb5)
    have hs5:=hb5.size
    clear hb5 KX x0 x1 x2 x3 x4 q0 q1 q2
    obtain ⟨⟨x0,x1,x2,x3,x4⟩,_⟩:=fiveQ X.out
    obtain ⟨q0,q1,q2⟩:=HS.out.cells
    have hl1:gb < W5.heap.size:=by omega
    have hl2:xb < W5.heap.size:=by omega
    have hl3:b < W5.heap.size:=by omega
    have d0:¬ y.row < 0:=by omega
    have HB:=Hid.intro (fun o o2=>k_alloc (k_alloc HS.out.below o) o2)
    go_wp2
    go_ret
    exact ⟨rfl,HB.out _ _⟩
   obtain ⟨b,off,cap',ea,hc1,hc2,hbl,hxc,_⟩:=At.get HS.out.at' hlt
   simp only [Value.slice.injEq,true_and] at ea
   obtain ⟨rfl,rfl⟩:=ea
   unfold maxLen at hc2
   have hfc:=HFt.out _ (mem_getD hlt)
   have hio:=HR.out.some k hlt
   have hni:¬ inG (g.cells.getD k dG) y→¬ k=i∧¬ k=j:=fun hn=>⟨fun e=>hn (by rw [e];exact HR.out.fst),fun e=>hn (by rw [e];exact HR.out.snd)⟩
   simp only at hio
   have HXc:=Hid.intro hxc
   generalize g.cells.getD k dG=c at HXc hfc hio hni
   clear hxc
   obtain ⟨y0,y1,y2,y3,y4⟩:=HXc.out
   obtain ⟨⟨g1,g2,g3⟩,g4,g5,g6⟩:=hfc
   have KA:=k_alloc (Below.refl wr.heap.size wr) (gO c)
   have HS1:=Hid.intro (HS.out.kept KA)
   have X1:=Hid.intro (box_keptQ X.out KA)
   have Z1:=newestB wr (gO c)
   clear KA
   by_cases hin:inG c y
   ·obtain ⟨⟨t1,t2⟩,t3,t4⟩:=hio.2 hin
    obtain ⟨i1,i2,i3,i4⟩:=hin
    clear hio hni
    have hcs:((k:Int) == (i:Int))=true∨(((k:Int) == (i:Int))=false∧((k:Int) == (j:Int))=true)∨(((k:Int) == (i:Int))=false∧((k:Int) == (j:Int))=false):=by
     by_cases h1:(k:Int)=i
     ·exact .inl (beq_iff_eq.2 h1)
     ·by_cases h2:(k:Int)=j
      ·exact .inr (.inl ⟨beq_eq_false_iff_ne.2 h1,beq_iff_eq.2 h2⟩)
      ·exact .inr (.inr ⟨beq_eq_false_iff_ne.2 h1,beq_eq_false_iff_ne.2 h2⟩)
    rcases hcs with b1 | ⟨b1,b2⟩ | ⟨b1,b2⟩
    all_goals
     go_wp2
     go_roundw
     case rel=>exact ⟨k+1,by go_num,by omega,HS1,X1⟩
     case measure=>simp [intOf];omega
   ·have hnm:=no_mt (fun h=>hin (hio.1 h))
    have hnn:=no_in hin
    obtain ⟨k1,k2⟩:=hni hin
    have b1:((k:Int) == (i:Int))=false:=beq_eq_false_iff_ne.2 (by omega)
    have b2:((k:Int) == (j:Int))=false:=beq_eq_false_iff_ne.2 (by omega)
    clear hio hni hin k1 k2
    go_upto_region 13 with fail
    go_cut [9] (fun s W=>s=.bool false∧W=wr.alloc (gO c))
    case first =>
     rcases hnm with h1 | ⟨h1,h2⟩ | ⟨h1,h2,h3⟩ | ⟨h1,h2,h3,h4⟩
     all_goals (go_wp2_with fail;go_meet;case rel=>exact ⟨rfl,rfl⟩)
    case rest =>
     obtain ⟨rfl,rfl⟩:=hcut
     go_upto_region 14 with fail
     go_cut [10] (fun s W=>s=.bool false∧W=wr.alloc (gO c))
     case first =>
      rcases hnn with h1 | ⟨h1,h2⟩ | ⟨h1,h2,h3⟩ | ⟨h1,h2,h3,h4⟩
      all_goals (go_wp2_with fail;go_meet;case rel=>exact ⟨rfl,rfl⟩)
     case rest =>
      obtain ⟨rfl,rfl⟩:=hcut
      go_wp2
      go_roundw
      case rel=>exact ⟨k+1,by go_num,by omega,HS1,X1⟩
      case measure=>simp [intOf];omega
set_option maxRecDepth 100000 in
theorem lawQryRange (A:Option Addr) (len cap:Nat) (w:World) (h:IsCode w A len cap) :
  Calls Try.prog 3 #[.slice A len cap] w fun e w'=>e=.returned (.bool true)∧Below w.heap.size w w':=by
 by_cases hl:len≤1048576
 ·exact lawQryRange_walk A len cap hl w h
 ·have hl':(1048576:Int) < (len:Int):=by omega
  go_enter Try.func3,Try.ntmps3
  go_wp2
  go_ret
  exact ⟨rfl,Below.refl _ _⟩
end Go.Proofs.Ytggmjiddadjilaj
