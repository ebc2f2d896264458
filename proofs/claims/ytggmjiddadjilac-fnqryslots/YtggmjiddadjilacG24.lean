/-
  PROVED HERE: the law FnQrySlots returns true at every code that lies in memory.
-/
import Derived.Test.YtggmjiddadjilacG21
import Derived.Test.YtggmjiddadjilacG23
import Derived.Test.YtggmjiddadjilacG15
import Derived.Test.YtggmjiddadjilacG6
import Derived.Deep.DeepCutAuto
import Derived.Deep.RegionWith
import Derived.Deep.LoopGhost
namespace Go.Proofs.Ytggmjiddadjilac
open Go.RowKit

theorem rowS_texts {w:World} {B:Nat} {v:Value} {l:List ByteArray} (h:RowS w B v l) (hs:∀ x ∈ l,x.size≤94):StrsAt w B v l:=by
 rcases h with ⟨rfl,rfl⟩ | ⟨g,cap,cur,hv,hb,hg,h1,h2,h3,h4⟩
 ·exact ⟨none,0,rfl,Nat.zero_le _,Nat.zero_le _,fun i hi=>absurd hi (Nat.not_lt_zero _)⟩
 ·refine ⟨some ⟨g,0,none⟩,cap,hv,h1,h2,fun i hi=>⟨g,0,rfl,(Array.getElem?_eq_some_iff.1 hg).1,hb,?_,?_⟩⟩
  ·rw [Nat.zero_add,Nat.mul_one,cellB hg,h4 i hi]
   rfl
  ·have e:l.getD i dS=l[i]:=by simp [List.getD,hi]
   rw [e]
   have:=hs _ (List.getElem_mem hi)
   unfold maxLen
   omega
theorem looks_size {g:G}:∀ x ∈ looks g,x.size≤94:=by
 intro x hx
 unfold looks at hx
 split at hx
 ·rename_i hok
  simp only [List.mem_map,List.mem_range] at hx
  obtain ⟨r,_,rfl⟩:=hx
  rw [lineB_size]
  have:=ok_ran hok
  omega
 ·cases hx

set_option maxRecDepth 100000 in
set_option maxHeartbeats 2000000 in
theorem lawQrySlots_walk (A:Option Addr) (len cap:Nat) (hlen:len≤1048576) (w:World) (h:IsCode w A len cap) :
  Calls Try.prog 6 #[.slice A len cap] w fun e w'=>e=.returned (.bool true)∧Below w.heap.size w w':=by
 have hl:¬ (1048576:Int) < (len:Int):=by omega
 have hmx:Try.prog.follows .mixedOrders=true:=by kernel_rfl
 have HD:=Hid.intro h
 clear h
 go_enter Try.func6,Try.ntmps6
 go_wp2_with fail
 refine (dQrySlots_any _ _ _ _ HD.out).mono ?_
 rintro e w1 ⟨va,vq,g,rfl,F⟩
 have HS:=Hid.intro (SGd.mk' F)
 clear F HD
 obtain ⟨W1,hW1⟩:∃ W1,w1.alloc (.cells #[.int .i64 g.rows,.int .i64 g.cols,.slice va g.cells.length vq] 25)=W1:=⟨_,rfl⟩
 rw [hW1] at HS
 generalize hgb:w1.heap.size=gb at HS
 go_upto_region 4 with fail
 clear hW1 hgb
 obtain ⟨q0,q1,q2⟩:=HS.out.cells
 have KP:=Hid.intro (implQrySlots g.rows g.cols va vq g.cells W1 HS.out.at')
 generalize hL:looks ⟨g.rows,g.cols,g.cells⟩=L at KP
 have hLs:∀ x ∈ L,x.size≤94:=by rw [← hL];exact looks_size
 go_wp2_with fail
 refine KP.out.mono ?_
 rintro e W2 ⟨v1,rfl,hv1,hb2⟩
 have R1:=Hid.intro hv1
 obtain ⟨a1,c1,rfl⟩:=hv1.form
 replace HS:=Hid.intro (HS.out.kept hb2)
 have KQ:=Hid.intro (specQrySlots g.rows g.cols va vq g.cells W2 HS.out.at')
 rw [hL] at KQ
 clear hb2 q0 q1 q2 KP hv1
 obtain ⟨q0,q1,q2⟩:=HS.out.cells
 go_wp2_with fail
 refine KQ.out.mono ?_
 rintro e W3 ⟨v2,rfl,hv2,hb3⟩
 have R2:=Hid.intro hv2
 obtain ⟨a2,c2,rfl⟩:=hv2.form
 replace HS:=Hid.intro (HS.out.kept hb3)
 replace R1:=Hid.intro (R1.out.below hb3 (Nat.le_refl _))
 clear hb3 q0 q1 q2 KQ hv2
 have KT:=Hid.intro (pwTexts_any _ _ L _ (rowS_texts R1.out hLs) (rowS_texts R2.out hLs))
 go_wp2_with fail
 refine KT.out.mono ?_
 rintro e W4 ⟨rfl,nq,rfl⟩
 replace HS:Hid (SGd w gb va vq g (W3.drewN nq)):=Hid.intro (HS.out.kept (k_drewN (Below.refl _ _) nq))
 replace R1:Hid (RowS (W3.drewN nq) _ _ L):=R1
 clear KT R2
 generalize W3.drewN nq=W4 at HS R1 ⊢
 replace R1:=Hid.intro (R1.out.base (Nat.zero_le _))
 obtain ⟨q0,q1,q2⟩:=HS.out.cells
 obtain ⟨ok,hok⟩:∃ ok,okB ⟨g.rows,g.cols,g.cells⟩=ok:=⟨_,rfl⟩
 have KO:=Hid.intro (specGrdOk g.rows g.cols va vq g.cells _ HS.out.at')
 rw [hok] at KO
 go_wp2_with fail
 refine KO.out.mono ?_
 rintro e W5 ⟨rfl,hb5⟩
 replace HS:=Hid.intro (HS.out.kept hb5)
 replace R1:=Hid.intro (R1.out.below hb5 (Nat.le_refl _))
 clear hb5 q0 q1 q2 KO
 cases ok with
 | false =>
  rw [looks_no hok] at hL
  subst hL
  clear hok
  go_wp2_with fail
  refine (pwOk_any _).mono ?_
  rintro e w5 ⟨rfl,rfl⟩
  go_wp2
  go_ret
  exact ⟨rfl,HS.out.below⟩
 | true =>
  obtain ⟨hE,hr1,hr8,hc1,hc94,hm1⟩:=empty_count (g:=g) hok
  rw [looks_ok hok] at hL
  obtain ⟨R,hR⟩:∃ R:Nat,g.rows=R:=⟨g.rows.toNat,by omega⟩
  obtain ⟨C,hC⟩:∃ C:Nat,g.cols=C:=⟨g.cols.toNat,by omega⟩
  simp only at hL
  rw [hR,hC,Int.toNat_natCast,Int.toNat_natCast] at hE hL
  have hLl:L.length=R:=by rw [← hL];simp
  have HLg:=Hid.intro (fun (r:Nat) (hr:r < R)=>(congrArg (fun l:List ByteArray=>l.getD r eS) hL.symm).trans (looks_get (gs:=g.cells) (C:=C) hr))
  have hA:=eA_le g.cells C
  have HEq:=Hid.intro hE
  have hR8:R≤8:=by omega
  have hC94:C≤94:=by omega
  have HRr:=Hid.intro hR
  have HCc:=Hid.intro hC
  have KE:=Hid.intro (fun W hW=>implGrdEmpty g.rows g.cols va vq g.cells W (z:=0) hW)
  generalize hEE:emptyOf ⟨g.rows,g.cols,g.cells⟩=E at HEq KE hE
  have HLl:=Hid.intro hLl
  rw [hLl] at R1 ⊢
  clear hE hm1 hr1 hr8 hc1 hc94 hR hC hok hL hEE hLl hLs
  have HS0:=HS
  have RS0:=R1
  go_wp2_with fail
  go_loopw [5,6] (fun s5 s6 W=>∃ r:Nat,s6=.int .i64 r∧r≤R∧s5=.int .i64 (eA g.cells C r:Nat)∧Hid (SGd w gb va vq g W)∧Hid (RowS W 0 (.slice a1 R c1) L)) (fun _ s6 _=>R - (intOf s6).toNat)
  case atStart=>exact ⟨0,rfl,Nat.zero_le _,rfl,HS0,RS0⟩
  case round=>as_aux_lemma =>
   clear HS HS0 RS0 R1
   obtain ⟨r,rfl,hr,rfl,HS,R1⟩:=hrel
   obtain ⟨q0,q1,q2⟩:=HS.out.cells
   rw [HRr.out] at q0
   rw [HCc.out] at q1
   have hAr:eA g.cells C r≤8 * 94:=Nat.le_trans (hA r) (Nat.mul_le_mul (by omega) hC94)
   by_cases hrR:r < R
   case neg =>
    obtain rfl:r=R:=by omega
    have hEE:(((eA g.cells C r:Nat):Int) == E)=true:=beq_iff_eq.2 HEq.out
    have hRR:((r:Int) == (r:Int))=true:=beq_iff_eq.2 rfl
    have KE2:=Hid.intro (KE.out _ (HS.out.at'.base (Nat.zero_le _)))
    rw [HRr.out,HCc.out] at KE2
    go_wp2_with fail
    refine KE2.out.mono ?_
    rintro e W5 ⟨rfl,hb5⟩
    replace HS:=Hid.intro (HS.out.kept hb5)
    clear hb5
    go_wp2
    go_ret
    exact ⟨rfl,HS.out.below⟩
   obtain ⟨g1,cap',e',_,hgl,hc1,hc2,hx,_⟩:=R1.out.get (i:=r) (by rw [HLl.out];exact hrR)
   simp only [Value.slice.injEq] at e'
   obtain ⟨rfl,hRL,rfl⟩:=e'
   clear hRL
   rw [HLl.out] at hc1
   rw [HLg.out r hrR] at hx
   have hsz:=lineB_size g.cells C r
   have HDt:=Hid.intro (fun (i:Nat) (hi:i < (lineB g.cells C r).size)=>line_dot hi)
   generalize hX:lineB g.cells C r=x at hx hsz HDt
   have HX:=Hid.intro hX
   clear hX
   unfold maxLen at hc2
   have hne:((x.size:Int) != (C:Int))=false:=by rw [hsz];simp
   go_upto_region 13 with fail
   go_quiet (fail)
   have HS1:Hid (SGd w gb va vq g (wr.drewN nq)):=Hid.intro (HS.out.kept (k_drewN (Below.refl _ _) nq))
   have RS1:Hid (RowS (wr.drewN nq) 0 (.slice (some ⟨g1,0,none⟩) R c1) L):=R1
   clear hx q0 q1 q2 hgl hne
   generalize wr.drewN nq=W1 at HS1 RS1 ⊢
   go_wp2_with fail
   go_loopw [5,7] (fun s5 s7 W=>∃ c:Nat,s7=.int .i64 c∧c≤C∧s5=.int .i64 ((eA g.cells C r+eR g.cells r c:Nat):Int)∧Hid (SGd w gb va vq g W)∧Hid (RowS W 0 (.slice (some ⟨g1,0,none⟩) R c1) L)) (fun _ s7 _=>C - (intOf s7).toNat)
   case atStart=>exact ⟨0,rfl,Nat.zero_le _,rfl,HS1,RS1⟩
   case round=>as_aux_lemma =>
    clear HS HS1 R1 RS1
    obtain ⟨c,rfl,hc,rfl,HS,R1⟩:=hrel
    obtain ⟨q0,q1,q2⟩:=HS.out.cells
    rw [HRr.out] at q0
    rw [HCc.out] at q1
    by_cases hcC:c < C
    case neg =>
     obtain rfl:c=C:=by omega
     have HES:=Hid.intro (eA_succ g.cells c r)
     clear hsz
     go_wp2
     go_roundw
     case rel=>exact ⟨r+1,by go_num,by omega,by rw [HES.out],HS,R1⟩
     case measure=>simp [intOf];omega
    obtain ⟨g2,cap2,e2,_,hgl,_,_,hx,_⟩:=R1.out.get (i:=r) (by rw [HLl.out];exact hrR)
    simp only [Value.slice.injEq,Option.some.injEq,Addr.mk.injEq,and_true] at e2
    obtain ⟨rfl,hRL,rfl⟩:=e2
    clear hRL
    rw [HLg.out r hrR,HX.out] at hx
    have hcx:c < x.size:=by rw [hsz];exact hcC
    have hD:=HDt.out c hcx
    have hRr:=eR_le g.cells r c
    have HEC:=Hid.intro (eR_succ g.cells r c)
    have KA:=Hid.intro (fun (p:BW wr)=>bw_of (implGrdAt g.rows g.cols va vq g.cells (r:Int) (c:Int) (by unfold I64;omega) (by unfold I64;omega) p.u (HS.out.kept p.h).at'))
    rw [HRr.out,HCc.out] at KA
    unfold noC at HEC
    generalize findTo (holdsB (r:Int) (c:Int)) g.cells=k at HEC KA hD
    generalize eA g.cells C r=a0 at *
    generalize eR g.cells r c=a1 at *
    have m0:=bw_cell (a:=⟨gb,0,none⟩) HS.out.lt q0
    have m1:=bw_cell (a:=⟨gb,1,none⟩) HS.out.lt q1
    have m2:=bw_cell (a:=⟨gb,2,none⟩) HS.out.lt q2
    have m3:=bw_cell (a:=⟨g1,r,none⟩) hgl hx
    have hne:=bw_some wr
    by_cases hk:k < 0
    ·have hE2:=HEC.out
     rw [if_pos (by simpa using hk)] at hE2
     have HE2:=Hid.intro hE2
     rw [decide_eq_true hk] at hD
     clear hE2 HEC
     go_upto_region 20 with fail
     refine wp_region_quiet_below hmx (by kernel_rfl) ?_
     repeat (go_big_quiet_step (first | (go_at_call 14;refine KA.out _)))
     refine wpQuiet_nil ?_
     intro W3 hw'
     obtain ⟨⟨Wx,hW3⟩,hw''⟩:=hw'
     subst hw''
     replace HS:=Hid.intro (HS.out.kept hW3)
     replace R1:=Hid.intro (R1.out.below hW3 (Nat.le_refl _))
     clear m0 m1 m2 m3 hne KA hW3 q0 q1 q2 hx hD hcx
     go_wp2
     go_roundw
     case rel=>exact ⟨c+1,by go_num,by omega,by have h9:=HE2.out;congr 1;omega,HS,R1⟩
     case measure=>simp [intOf];omega
    ·have hE2:=HEC.out
     rw [if_neg (by simpa using hk)] at hE2
     have HE2:=Hid.intro hE2
     rw [decide_eq_false hk] at hD
     clear hE2 HEC
     go_upto_region 20 with fail
     refine wp_region_quiet_below hmx (by kernel_rfl) ?_
     repeat (go_big_quiet_step (first | (go_at_call 14;refine KA.out _)))
     refine wpQuiet_nil ?_
     intro W3 hw'
     obtain ⟨⟨Wx,hW3⟩,hw''⟩:=hw'
     subst hw''
     replace HS:=Hid.intro (HS.out.kept hW3)
     replace R1:=Hid.intro (R1.out.below hW3 (Nat.le_refl _))
     clear m0 m1 m2 m3 hne KA hW3 q0 q1 q2 hx hD hcx
     go_wp2
     go_roundw
     case rel=>exact ⟨c+1,by go_num,by omega,by have h9:=HE2.out;congr 1;omega,HS,R1⟩
     case measure=>simp [intOf];omega
theorem lawQrySlots (A:Option Addr) (len cap:Nat) (w:World) (h:IsCode w A len cap) :
  Calls Try.prog 6 #[.slice A len cap] w fun e w'=>e=.returned (.bool true)∧Below w.heap.size w w':=by
 by_cases hl:len≤1048576
 ·exact lawQrySlots_walk A len cap hl w h
 ·have hl':(1048576:Int) < (len:Int):=by omega
  go_enter Try.func6,Try.ntmps6
  go_wp2
  go_ret
  exact ⟨rfl,Below.refl _ _⟩
end Go.Proofs.Ytggmjiddadjilac
