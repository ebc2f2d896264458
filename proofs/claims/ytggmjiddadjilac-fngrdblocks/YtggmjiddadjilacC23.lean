/-
  PROVED HERE: DrawGrdBlocks draws a grid; nothing that was in memory is turned. Also: the law FnGrdBlocks returns true at every code that lies in memory.
-/
import Derived.Test.YtggmjiddadjilacC22
import Derived.Test.YtggmjiddadjilacC20
import Derived.Test.YtggmjiddadjilacC21
import Derived.Test.YtggmjiddadjilacC15
import Derived.Deep.DeepCutAuto
import Derived.Deep.RegionWith
import Derived.Deep.LoopGhost
namespace Go.Proofs.Ytggmjiddadjilac
open Go.RowKit

set_option maxRecDepth 100000 in
set_option maxHeartbeats 1000000 in
theorem dGrdBlocks_any (a:Option Addr) (len cap:Nat) (w:World) (h:IsCode w a len cap) :
  Calls Try.prog 18 #[.slice a len cap] w fun e w'=>GrdPost w e w':=by
 have K0:=k_alloc (Below.refl w.heap.size w) (.cells #[.int .i64 0,.int .i64 0,.slice none 0 0] 25)
 have HC:=Hid.intro (code_kept h K0)
 have X0:=newestB w (.cells #[.int .i64 0,.int .i64 0,.slice none 0 0] 25)
 clear h
 have hsz:(w.alloc (.cells #[.int .i64 0,.int .i64 0,.slice none 0 0] 25)).heap.size=w.heap.size+1:=by simp
 go_enter Try.func18,Try.ntmps18
 go_wp2_with fail
 refine (open_any _ _ _ _ HC.out).mono ?_
 rintro e w1 ⟨rfl,hR1,hb1⟩
 rw [hsz] at hR1 hb1
 have X1:=(hb1.block w.heap.size (by omega)).trans X0
 have K1:=k_trans K0 (by rw [hsz];exact hb1)
 have hz1:=hR1.lt
 go_wp2_with fail
 refine (l20Grid_any (w.heap.size+1) 0 12 (by omega) _ hR1 (by omega)).mono ?_
 rintro e w2 ⟨va,vq,g,rfl,hG,hIr,hIc,hlen,hR2,hb2,h99⟩
 have X2:=(hb2.block w.heap.size (by omega) (by omega)).trans X1
 have K2:=K1.trans (hb2.below (by omega) (by omega))
 have hz2:w.heap.size+1 < w2.heap.size:=hR2.lt
 have HP:=Hid.intro (grd_post hG (by omega) (by omega) K2 hIr hIc hlen)
 obtain ⟨⟨x0,x1,x2⟩,y0,y1,y2⟩:=threeZ X2
 clear h99 hG hR2 hb2 X2 X1 X0 K0 K1 K2 HC hR1 hb1
 go_wp2
 exact bodyPost_ret (v:=.agg #[.int .i64 g.rows,.int .i64 g.cols,.slice va g.cells.length vq]) (by simp [results,Try.results18,go_sem,x0,x1,x2]) rfl HP.out
end Go.Proofs.Ytggmjiddadjilac
namespace Go.Proofs.Ytggmjiddadjilac
open Go.RowKit

set_option maxRecDepth 100000 in
set_option maxHeartbeats 2000000 in
theorem lawGrdBlocks_walk (A:Option Addr) (len cap:Nat) (hlen:len≤1048576) (w:World) (h:IsCode w A len cap) :
  Calls Try.prog 5 #[.slice A len cap] w fun e w'=>e=.returned (.bool true)∧Below w.heap.size w w':=by
 have hl:¬ (1048576:Int) < (len:Int):=by omega
 have HD:=Hid.intro h
 clear h
 go_enter Try.func5,Try.ntmps5
 go_wp2_with fail
 refine (dGrdBlocks_any _ _ _ _ HD.out).mono ?_
 rintro e w1 ⟨va,vq,g,rfl,F⟩
 have HS:=Hid.intro (SGd.mk' F)
 clear F HD
 obtain ⟨W1,hW1⟩:∃ W1,w1.alloc (.cells #[.int .i64 g.rows,.int .i64 g.cols,.slice va g.cells.length vq] 25)=W1:=⟨_,rfl⟩
 rw [hW1] at HS
 generalize hgb:w1.heap.size=gb at HS
 go_upto_region 4 with fail
 clear hW1 hgb
 obtain ⟨q0,q1,q2⟩:=HS.out.cells
 go_wp2_with fail
 refine (implGrdBlocks g.rows g.cols va vq g.cells W1 HS.out.at').mono ?_
 rintro e W2 ⟨v,rfl,hv,hb2⟩
 obtain ⟨ok,hok⟩:∃ ok,okB ⟨g.rows,g.cols,g.cells⟩=ok:=⟨_,rfl⟩
 have HL:=Hid.intro (SGi.mk (HS.out.kept hb2) hv.at)
 clear hb2 q0 q1 q2 hv HS
 have KS:=Hid.intro (specGrdBlocks g.rows g.cols va vq g.cells W2 HL.out.s.at')
 have HE:=Hid.intro (fun h:ok=true=>blocks_facts (g:=⟨g.rows,g.cols,g.cells⟩) (hok.trans h))
 have HN:=Hid.intro (fun h:ok=false=>blocksL_no (hok.trans h))
 have hokk:=Hid.intro hok
 clear hok
 generalize blocksL ⟨g.rows,g.cols,g.cells⟩=L at *
 obtain ⟨la,lc,rfl,hLL⟩:=HL.out.l.form
 go_upto_region 5 with fail
 obtain ⟨q0,q1,q2⟩:=HL.out.s.cells
 go_wp2_with fail
 refine KS.out.mono ?_
 rintro e W3 ⟨v2,rfl,hv2,hb3⟩
 replace HL:=Hid.intro (HL.out.kept hb3)
 have KP:=Hid.intro (pwInts_any _ _ _ W3 HL.out.l hv2.at)
 clear hb3 q0 q1 q2 hv2 KS
 go_wp2_with fail
 refine KP.out.mono ?_
 rintro e W4 ⟨rfl,n,rfl⟩
 replace HL:=Hid.intro (HL.out.drewN n)
 clear KP
 generalize W3.drewN n=W4 at *
 obtain ⟨q0,q1,q2⟩:=HL.out.s.cells
 have KO:=Hid.intro (specGrdOk g.rows g.cols va vq g.cells W4 HL.out.s.at')
 rw [hokk.out] at KO
 go_wp2_with fail
 refine KO.out.mono ?_
 rintro e W5 ⟨rfl,hb4⟩
 replace HL:=Hid.intro (HL.out.kept hb4)
 clear hb4 q0 q1 q2 KO hokk
 cases ok with
 | false =>
  obtain rfl:=HN.out rfl
  go_wp2_with fail
  refine (pwOk_any _).mono ?_
  rintro e w5 ⟨rfl,rfl⟩
  go_wp2
  go_ret
  exact ⟨rfl,HL.out.s.below⟩
 | true =>
  obtain ⟨hE,hr1,hr8,hfit,hl0,hg0⟩:=HE.out rfl
  obtain ⟨R,hR⟩:∃ R:Nat,g.rows=R:=⟨g.rows.toNat,by omega⟩
  rw [hR,Int.toNat_natCast] at hE
  have HEq:=Hid.intro hE
  have hR8:R≤8:=by omega
  have HRr:=Hid.intro hR
  have HF:=Hid.intro hfit
  have HG0:=Hid.intro hg0
  have HL0:=HL
  clear hE HE HN hr1 hr8 hR hfit hg0
  go_upto_region 9 with fail
  go_wp2_with fail
  go_loopw [5,6] (fun s5 s6 W=>∃ r:Nat,s6=.int .i64 r∧r≤R∧s5=.int .i64 ((blocksTo g.cells r).length:Nat)∧Hid (SGi w gb va vq g (.slice la L.length lc) L W)) (fun _ s6 _=>R - (intOf s6).toNat)
  case atStart=>exact ⟨0,rfl,Nat.zero_le _,rfl,HL0⟩
  case round=>as_aux_lemma =>
   clear HL HL0
   obtain ⟨r,rfl,hr,rfl,HL⟩:=hrel
   obtain ⟨q0,q1,q2⟩:=HL.out.s.cells
   rw [HRr.out] at q0
   have hbl:=blocksTo_len g.cells r
   by_cases hrR:r < R
   case neg =>
    obtain rfl:r=R:=by omega
    have hEE:((((blocksTo g.cells r).length:Nat):Int) == (L.length:Int))=true:=beq_iff_eq.2 (by rw [HEq.out])
    have HLL:=Hid.intro hLL
    obtain ⟨b,off,cap',e',hc1,hc2,hbq,hx⟩:=HL.out.l.get hl0
    simp only [Value.slice.injEq,true_and] at e'
    obtain ⟨rfl,rfl⟩:=e'
    rw [HG0.out,Nat.add_zero] at hx
    have hl0':(0:Int) < (L.length:Int):=by omega
    unfold maxLen at hc2
    generalize (blocksTo g.cells r).length=n at *
    go_wp2
    go_ret
    exact ⟨rfl,HL.out.s.below⟩
   go_wp2_with fail
   go_loopw [7,8] (fun s7 s8 W=>∃ (j n:Nat),j≤g.cells.length∧s8=.int .i64 j∧s7=.bool ((g.cells.take j).any (overS (r:Int)))∧W=wr.drewN n) (fun _ s8 _=>g.cells.length - (intOf s8).toNat)
   case atStart=>exact ⟨0,0,Nat.zero_le _,rfl,rfl,rfl⟩
   case round=>as_aux_lemma =>
    obtain ⟨j,nd,hj,rfl,rfl,rfl⟩:=hrel
    by_cases hlj:j < g.cells.length
    ·have hlj':(j:Int) < (g.cells.length:Int):=by omega
     have h0':(0:Int)≤(j:Int):=by omega
     obtain ⟨q,off,cap',e',hc1,hc2,hbq,hx,hs⟩:=At.get HL.out.s.at' hlj
     simp only [Value.slice.injEq,true_and] at e'
     obtain ⟨rfl,rfl⟩:=e'
     have HST:=Hid.intro (over_step g.cells (r:Int) j hlj)
     have hfit:fitsB g.rows g.cols (g.cells.getD j dG)=true:=HF.out _ (by simp [List.getD,hlj])
     rw [HRr.out] at hfit
     obtain ⟨e1,e2,e3,e4,f1,f2,f3,f4⟩:=fits_of hfit
     generalize g.cells.getD j dG=x at *
     generalize (g.cells.take j).any (overS (r:Int))=fb at *
     obtain ⟨x0,x1,x2,x3,x4⟩:=hx
     unfold maxLen at hc2
     have b0:0≤x.row∧x.row≤8∧0≤x.rows∧x.rows≤8:=by omega
     clear hs hfit e1 e2 e3 e4 f1 f2 f3 f4
     cases fb with
     | true =>
      have HS':Hid ((g.cells.take (j+1)).any (overS (r:Int))=true):=by show (g.cells.take (j+1)).any (overS (r:Int))=true;rw [HST.out];rfl
      clear HST
      go_wp2_with fail
      go_quiet (fail)
      go_wp2
      go_roundw
      case rel=>exact ⟨j+1,nd+nq,by omega,by go_num,by rw [HS'.out],rfl⟩
      case measure=>simp [intOf];omega
     | false =>
      by_cases h1:x.row < (r:Int)
      ·have d1:decide (x.row < (r:Int))=true:=decide_eq_true h1
       by_cases h2:(r:Int) < x.row+x.rows
       ·have d2:decide ((r:Int) < x.row+x.rows)=true:=decide_eq_true h2
        have HS':Hid ((g.cells.take (j+1)).any (overS (r:Int))=true):=by show (g.cells.take (j+1)).any (overS (r:Int))=true;rw [HST.out];simp only [overS,d1,d2];rfl
        clear HST
        go_wp2_with fail
        go_quiet (fail)
        go_wp2
        go_roundw
        case rel=>exact ⟨j+1,nd+nq,by omega,by go_num,by rw [HS'.out],rfl⟩
        case measure=>simp [intOf];omega
       ·have d2:decide ((r:Int) < x.row+x.rows)=false:=decide_eq_false h2
        have HS':Hid ((g.cells.take (j+1)).any (overS (r:Int))=false):=by show (g.cells.take (j+1)).any (overS (r:Int))=false;rw [HST.out];simp only [overS,d1,d2];rfl
        clear HST
        go_wp2_with fail
        go_quiet (fail)
        go_wp2
        go_roundw
        case rel=>exact ⟨j+1,nd+nq,by omega,by go_num,by rw [HS'.out],rfl⟩
        case measure=>simp [intOf];omega
      ·have d1:decide (x.row < (r:Int))=false:=decide_eq_false h1
       have HS':Hid ((g.cells.take (j+1)).any (overS (r:Int))=false):=by show (g.cells.take (j+1)).any (overS (r:Int))=false;rw [HST.out];simp only [overS,d1];rfl
       clear HST
       go_wp2_with fail
       go_quiet (fail)
       go_wp2
       go_roundw
       case rel=>exact ⟨j+1,nd+nq,by omega,by go_num,by rw [HS'.out],rfl⟩
       case measure=>simp [intOf];omega
    ·obtain rfl:j=g.cells.length:=by omega
     replace HL:=Hid.intro (HL.out.drewN nd)
     have hfb:(g.cells.take g.cells.length).any (overS (r:Int))=crossS g.cells (r:Int):=by rw [List.take_length];rfl
     rw [hfb]
     clear hfb q0 q1 q2
     generalize wr.drewN nd=W6 at *
     obtain ⟨q0,q1,q2⟩:=HL.out.s.cells
     rw [HRr.out] at q0
     cases hc:crossS g.cells (r:Int) with
     | true =>
      have HM:=Hid.intro (blocksTo_stay hc)
      clear hc
      generalize (blocksTo g.cells r).length=n at *
      go_wp2
      go_roundw
      case rel=>exact ⟨r+1,by go_num,by omega,by have h9:=HM.out;congr 1;omega,HL⟩
      case measure=>simp [intOf];omega
     | false =>
      obtain ⟨hn1,hn2⟩:=blocksTo_at hrR hc
      rw [← HEq.out] at hn1 hn2
      have HM:=Hid.intro (blocksTo_more hc)
      clear hc
      obtain ⟨b,off,cap',e',hc1,hc2,hbq,hx⟩:=HL.out.l.get hn1
      simp only [Value.slice.injEq,true_and] at e'
      obtain ⟨rfl,rfl⟩:=e'
      rw [hn2] at hx
      unfold maxLen at hc2
      clear hn2
      generalize (blocksTo g.cells r).length=n at *
      have hge:(L.length≤n)=False:=by simp;omega
      go_wp2
      go_roundw
      case rel=>exact ⟨r+1,by go_num,by omega,by have h9:=HM.out;congr 1;omega,HL⟩
      case measure=>simp [intOf];omega
theorem lawGrdBlocks (A:Option Addr) (len cap:Nat) (w:World) (h:IsCode w A len cap) :
  Calls Try.prog 5 #[.slice A len cap] w fun e w'=>e=.returned (.bool true)∧Below w.heap.size w w':=by
 by_cases hl:len≤1048576
 ·exact lawGrdBlocks_walk A len cap hl w h
 ·have hl':(1048576:Int) < (len:Int):=by omega
  go_enter Try.func5,Try.ntmps5
  go_wp2
  go_ret
  exact ⟨rfl,Below.refl _ _⟩
end Go.Proofs.Ytggmjiddadjilac
