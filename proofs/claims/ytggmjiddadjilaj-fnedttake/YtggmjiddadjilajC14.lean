/-
  PROVED HERE: what the program's EdtTake answers: of a table that is ok the table without one cell, or the table as it is, in memory of its own; else nothing; nothing that was in memory is turned.
-/
import Derived.Test.YtggmjiddadjilajC13
import Derived.Test.YtggmjiddadjilajC3
import Derived.Test.YtggmjiddadjilajC4
import Derived.Test.YtggmjiddadjilajC10
import Derived.Test.YtggmjiddadjilajC6
namespace Go.Proofs.Ytggmjiddadjilaj
open Go.RowKit

set_option maxRecDepth 100000 in
set_option maxHeartbeats 4000000 in
theorem implEdtTake (ac ar:Option Addr) (cc cr:Nat) (t:T) (row at':Int) (hrow:-9223372036854775808≤row∧row≤9223372036854775807) (w:World) {z:Nat} (hc:ColsAt w z (.slice ac t.cols.length cc) t.cols) (hr:RowsAt w z (.slice ar t.rows.length cr) t.rows) :
  Calls Try.prog 18 #[.agg #[.slice ac t.cols.length cc,.int .i64 t.head,.int .i64 t.foot,.slice ar t.rows.length cr,.int .i64 t.gap],.int .i64 row,.int .i64 at'] w fun e w'=>∃ a1 c1 a2 c2 d1 d2,e=.returned (.tuple #[.agg #[.slice a1 d1 c1,.int .i64 (edTake t row at').1.head,.int .i64 (edTake t row at').1.foot,.slice a2 d2 c2,.int .i64 (edTake t row at').1.gap],.bool (edTake t row at').2])∧OwnT w' w.heap.size (.slice a1 d1 c1) (.slice a2 d2 c2) (edTake t row at').1∧Below w.heap.size w w':=by
 have hmf:∀ (fn:Fn) (first cap:Array Value) (W:World),(Instr.makeFunc fn first cap).run Try.prog W=.ok (.func fn first cap) W:=fun _ _ _ _=>rfl
 obtain ⟨W0,hW0⟩:∃ W0,(((w.alloc (.cells #[.slice ac t.cols.length cc,.int .i64 t.head,.int .i64 t.foot,.slice ar t.rows.length cr,.int .i64 t.gap] 37)).alloc (.cells #[.int .i64 row] 3)).alloc (.cells #[.int .i64 at'] 3)).alloc (.cells #[.slice none 0 0,.int .i64 0,.int .i64 0,.slice none 0 0,.int .i64 0] 37)=W0:=⟨_,rfl⟩
 have K0:Below w.heap.size w W0:=by rw [← hW0];exact k_alloc (k_alloc (k_alloc (k_alloc (Below.refl _ _) _) _) _) _
 have T0:W0.heap[w.heap.size]?=some (.cells #[.slice ac t.cols.length cc,.int .i64 t.head,.int .i64 t.foot,.slice ar t.rows.length cr,.int .i64 t.gap] 37):=by rw [← hW0];exact alloc_at (alloc_at (alloc_at (newestB _ _)))
 have T1:W0.heap[w.heap.size+1]?=some (.cells #[.int .i64 row] 3):=by rw [← hW0];exact alloc_at (alloc_at (alloc_new (by simp)))
 have T2:W0.heap[w.heap.size+1+1]?=some (.cells #[.int .i64 at'] 3):=by rw [← hW0];exact alloc_at (alloc_new (by simp))
 have T4:W0.heap[w.heap.size+1+1+1]?=some (.cells #[.slice none 0 0,.int .i64 0,.int .i64 0,.slice none 0 0,.int .i64 0] 37):=by rw [← hW0];exact alloc_new (by simp)
 have hsz:w.heap.size+1+1+1 < W0.heap.size:=(Array.getElem?_eq_some_iff.1 T4).1
 have KO:=Hid.intro (implCopyOf ac ar cc cr t W0 (hc.kept K0) (hr.kept K0))
 have HTx:=Hid.intro (txM_at hr)
 have HK0:=Hid.intro K0
 obtain ⟨b0,b1,b2,b3,b4⟩:=fiveO T0
 have HT1:=Hid.intro T1
 have HT2:=Hid.intro T2
 have HT4:=Hid.intro T4
 clear hc hr K0 T0 T1 T2 T4
 go_enter Try.func18,Try.ntmps18
 go_upto_region 1 with fail
 clear hW0
 have hl4:w.heap.size≤w.heap.size+1+1+1:=by omega
 generalize w.heap.size+1+1+1=bz at HT4 hsz hl4 ⊢
 generalize w.heap.size+1+1=ba at HT2 ⊢
 generalize w.heap.size+1=br at HT1 ⊢
 go_wp2_with fail
 refine KO.out.mono ?_
 rintro e w1 ⟨hcase,hb1⟩
 have hlz1:=Nat.lt_of_lt_of_le hsz hb1.size
 replace HT1:=Hid.intro ((hb1.block _ (Array.getElem?_eq_some_iff.1 HT1.out).1).trans HT1.out)
 replace HT2:=Hid.intro ((hb1.block _ (Array.getElem?_eq_some_iff.1 HT2.out).1).trans HT2.out)
 replace HT4:=Hid.intro ((hb1.block _ (Array.getElem?_eq_some_iff.1 HT4.out).1).trans HT4.out)
 replace HK0:=Hid.intro (k_trans HK0.out hb1)
 clear KO b0 b1 b2 b3 b4
 rcases hcase with ⟨htk,rfl⟩ | ⟨htk,a1,c1,a2,c2,rfl,hO1⟩
 ·have HE:Hid (edTake t row at'=(zT,false)):=by show _=_;rw [edTake,if_neg (by rw [htk];simp)]
  replace HT4:=Hid.intro (alloc_at (o:=(.cells #[.slice none 0 0,.int .i64 0,.int .i64 0,.slice none 0 0,.int .i64 0] 37)) HT4.out)
  replace HK0:=Hid.intro (k_alloc HK0.out (.cells #[.slice none 0 0,.int .i64 0,.int .i64 0,.slice none 0 0,.int .i64 0] 37))
  have HX:Hid ((w1.alloc (.cells #[.slice none 0 0,.int .i64 0,.int .i64 0,.slice none 0 0,.int .i64 0] 37)).heap[w1.heap.size]?=some (.cells #[.slice none 0 0,.int .i64 0,.int .i64 0,.slice none 0 0,.int .i64 0] 37)):=newestB _ _
  clear HT1 HT2 hb1 htk
  go_upto_region 2 with fail
  generalize w1.alloc (.cells #[.slice none 0 0,.int .i64 0,.int .i64 0,.slice none 0 0,.int .i64 0] 37)=W1 at HT4 HK0 HX ⊢
  generalize w1.heap.size=xb at HX hlz1 ⊢
  have KB:=Hid.intro (fun p0 p1 p2=>behindTake_no xb p0 p1 p2 none none 0 0 0 0 0 0 0 W1 HX.out)
  obtain ⟨x0,x1,x2,x3,x4⟩:=fiveO HX.out
  go_wp2_with fail
  refine (KB.out _ _ _).mono ?_
  rintro e w2 ⟨rfl,hb2⟩
  replace HT4:=Hid.intro ((hb2.block _ (Array.getElem?_eq_some_iff.1 HT4.out).1).trans HT4.out)
  replace HK0:=Hid.intro (k_trans HK0.out hb2)
  obtain ⟨d0,d1,d2,d3,d4⟩:=fiveO HT4.out
  have fz:∀ p,w2.frozen? ⟨bz,p,none⟩=false:=fun p=>freeB HT4.out
  clear hb2 x0 x1 x2 x3 x4 KB
  go_wp2
  exact bodyPost_ret (v:=.tuple #[.agg #[.slice none 0 0,.int .i64 0,.int .i64 0,.slice none 0 0,.int .i64 0],.bool false]) (by simp [results,Try.results18,go_sem,d0,d1,d2,d3,d4]) rfl ⟨none,0,none,0,0,0,by rw [HE.out];rfl,by rw [HE.out];exact ⟨[],rfl,⟨rfl,.inl ⟨rfl,rfl⟩⟩,⟨⟨rfl,.inl ⟨rfl,rfl⟩⟩,fun p hp=>absurd hp (by simp),.nil⟩⟩,k_set (k_set (k_set (k_set (k_set HK0.out hl4 _) hl4 _) hl4 _) hl4 _) hl4 _⟩
 ·obtain ⟨ur,hur,hOc,hOr⟩:=hO1
  have Hur:=Hid.intro hur
  have HOD:=Hid.intro ((OwnD.of hOc hOr).kept (k_alloc (Below.refl _ _) (.cells #[.slice a1 t.cols.length c1,.int .i64 t.head,.int .i64 t.foot,.slice a2 t.rows.length c2,.int .i64 t.gap] 37)))
  have HTM:Hid (RowsAt (w1.alloc (.cells #[.slice a1 t.cols.length c1,.int .i64 t.head,.int .i64 t.foot,.slice a2 t.rows.length c2,.int .i64 t.gap] 37)) W0.heap.size (.slice a2 t.rows.length c2) t.rows):=OwnT.rows (own_lt (t:=t) HOD.out rfl hur) HTx.out
  replace HT1:=Hid.intro (alloc_at (o:=(.cells #[.slice a1 t.cols.length c1,.int .i64 t.head,.int .i64 t.foot,.slice a2 t.rows.length c2,.int .i64 t.gap] 37)) HT1.out)
  replace HT2:=Hid.intro (alloc_at (o:=(.cells #[.slice a1 t.cols.length c1,.int .i64 t.head,.int .i64 t.foot,.slice a2 t.rows.length c2,.int .i64 t.gap] 37)) HT2.out)
  replace HT4:=Hid.intro (alloc_at (o:=(.cells #[.slice a1 t.cols.length c1,.int .i64 t.head,.int .i64 t.foot,.slice a2 t.rows.length c2,.int .i64 t.gap] 37)) HT4.out)
  replace HK0:=Hid.intro (k_alloc HK0.out (.cells #[.slice a1 t.cols.length c1,.int .i64 t.head,.int .i64 t.foot,.slice a2 t.rows.length c2,.int .i64 t.gap] 37))
  have HX:Hid ((w1.alloc (.cells #[.slice a1 t.cols.length c1,.int .i64 t.head,.int .i64 t.foot,.slice a2 t.rows.length c2,.int .i64 t.gap] 37)).heap[w1.heap.size]?=some (.cells #[.slice a1 t.cols.length c1,.int .i64 t.head,.int .i64 t.foot,.slice a2 t.rows.length c2,.int .i64 t.gap] 37)):=newestB _ _
  have HEd:Hid (edTake t row at'=if hasB t row at'=true then (setRow t row.toNat ((t.rows.getD row.toNat dR).cells.eraseIdx at'.toNat),true) else (t,false)):=by show _=_;rw [edTake,if_pos htk]
  have H5:=Hid.intro (cells_5 htk)
  have hxW:w1.heap.size < (w1.alloc (.cells #[.slice a1 t.cols.length c1,.int .i64 t.head,.int .i64 t.foot,.slice a2 t.rows.length c2,.int .i64 t.gap] 37)).heap.size:=by simp
  clear hOc hOr hb1 htk hur HTx
  go_upto_region 2 with fail
  generalize w1.alloc (.cells #[.slice a1 t.cols.length c1,.int .i64 t.head,.int .i64 t.foot,.slice a2 t.rows.length c2,.int .i64 t.gap] 37)=W1 at HT1 HT2 HT4 HK0 HX HOD HTM hxW ⊢
  generalize w1.heap.size=xb at HX HOD hlz1 hxW ⊢
  obtain ⟨x0,x1,x2,x3,x4⟩:=fiveO HX.out
  have y1:=cellB (p:=0) HT1.out
  have y2:=cellB (p:=0) HT2.out
  have KH:=Hid.intro (implHasCell a1 a2 c1 c2 t row at' hrow H5.out W1 HTM.out)
  cases hh:hasB t row at' with
  | false =>
   rw [hh] at KH
   have HE:Hid (edTake t row at'=(t,false)):=by show _=_;rw [HEd.out,if_neg (by rw [hh];simp)]
   clear hh HEd
   go_wp2_with fail
   refine KH.out.mono ?_
   rintro e w2 ⟨rfl,hb2⟩
   have hx2:=hb2.size
   replace HT1:=Hid.intro ((hb2.block _ (Array.getElem?_eq_some_iff.1 HT1.out).1).trans HT1.out)
   replace HT2:=Hid.intro ((hb2.block _ (Array.getElem?_eq_some_iff.1 HT2.out).1).trans HT2.out)
   replace HT4:=Hid.intro ((hb2.block _ (Array.getElem?_eq_some_iff.1 HT4.out).1).trans HT4.out)
   replace HX:=Hid.intro ((hb2.block _ (Array.getElem?_eq_some_iff.1 HX.out).1).trans HX.out)
   replace HK0:=Hid.intro (k_trans HK0.out hb2)
   replace HOD:=Hid.intro (HOD.out.kept hb2)
   clear hb2 KH x0 x1 x2 x3 x4 y1 y2 HTM
   have KB:=Hid.intro (fun p0 p1 p2=>behindTake_no xb p0 p1 p2 a1 a2 t.cols.length c1 t.rows.length c2 t.head t.foot t.gap w2 HX.out)
   go_wp2_with fail
   refine (KB.out _ _ _).mono ?_
   rintro e w4 ⟨rfl,hb4⟩
   replace HT4:=Hid.intro ((hb4.block _ (Array.getElem?_eq_some_iff.1 HT4.out).1).trans HT4.out)
   replace HK0:=Hid.intro (k_trans HK0.out hb4)
   replace HOD:=Hid.intro (HOD.out.kept hb4)
   obtain ⟨d0,d1,d2,d3,d4⟩:=fiveO HT4.out
   have fz:∀ p,w4.frozen? ⟨bz,p,none⟩=false:=fun p=>freeB HT4.out
   clear hb4 KB
   go_wp2
   exact bodyPost_ret (v:=.tuple #[.agg #[.slice a1 t.cols.length c1,.int .i64 t.head,.int .i64 t.foot,.slice a2 t.rows.length c2,.int .i64 t.gap],.bool false]) (by simp [results,Try.results18,go_sem,d0,d1,d2,d3,d4]) rfl ⟨a1,c1,a2,c2,_,_,by rw [HE.out],by rw [HE.out];exact OwnT.base (OwnT.since (own_lt HOD.out rfl Hur.out) (Since.set (Since.set (Since.set (Since.set (Since.set (Since.refl _ _) (p:=⟨bz,0,none⟩) hsz _) (p:=⟨bz,1,none⟩) hsz _) (p:=⟨bz,2,none⟩) hsz _) (p:=⟨bz,3,none⟩) hsz _) (p:=⟨bz,4,none⟩) hsz _)) (by omega),k_set (k_set (k_set (k_set (k_set HK0.out hl4 _) hl4 _) hl4 _) hl4 _) hl4 _⟩
  | true =>
   rw [hh] at KH
   have Hh:=Hid.intro hh
   clear hh
   go_wp2_with fail
   refine KH.out.mono ?_
   rintro e w2 ⟨rfl,hb2⟩
   have hx2:=hb2.size
   replace HT1:=Hid.intro ((hb2.block _ (Array.getElem?_eq_some_iff.1 HT1.out).1).trans HT1.out)
   replace HT2:=Hid.intro ((hb2.block _ (Array.getElem?_eq_some_iff.1 HT2.out).1).trans HT2.out)
   replace HT4:=Hid.intro ((hb2.block _ (Array.getElem?_eq_some_iff.1 HT4.out).1).trans HT4.out)
   replace HX:=Hid.intro ((hb2.block _ (Array.getElem?_eq_some_iff.1 HX.out).1).trans HX.out)
   replace HK0:=Hid.intro (k_trans HK0.out hb2)
   replace HOD:=Hid.intro (HOD.out.kept hb2)
   clear hb2 KH x0 x1 x2 x3 x4 y1 y2 HTM
   have HE:Hid (edTake t row at'=(setRow t row.toNat ((t.rows.getD row.toNat dR).cells.eraseIdx at'.toNat),true)):=by show _=_;rw [HEd.out,if_pos Hh.out]
   clear HEd
   obtain ⟨r,a,rfl,rfl,hrl,hal⟩:=hasB_iff.1 Hh.out
   rw [Int.toNat_natCast,Int.toNat_natCast] at HE
   have hur:=Hur.out
   have hul:ur.length=t.rows.length:=by rw [← hur,List.length_map]
   have hge:ur[r]?=some (ur[r]'(by omega)):=List.getElem?_eq_getElem (by omega)
   have hpr:(ur[r]'(by omega)).2=t.rows.getD r dR:=by rw [← map_snd_get hge,hur]
   generalize hpE:ur[r]'(by omega)=p at hge hpr
   clear hpE
   rw [← hpr] at hal HE
   obtain ⟨g,cg,arr,ev,hg1,hg2,hgl,hgB,harr,hasz,ha0,ha1⟩:=own_get HOD.out.2.1 hge
   rw [hul] at ev hg1
   simp only [Value.slice.injEq,true_and] at ev
   obtain ⟨rfl,rfl⟩:=ev
   obtain ⟨h,cu,cur,hpv,hh1,hh2,hh3,hh4⟩:=own_row HOD.out.2.1 hge hal
   rw [hpv] at ha0
   have hDx:=hlz1
   have HOw:Hid (∀ W9,w2.grownBy W9 (some h)→OwnC W9 W0.heap.size (.slice (some ⟨h,0,none⟩) (p.2.cells.length - 1) cu) (p.2.cells.eraseIdx a)→OwnD (W9.setCell ⟨g,r * 2,none⟩ (.slice (some ⟨h,0,none⟩) (p.2.cells.length - 1) cu)) W0.heap.size xb (.slice a1 t.cols.length c1) (.slice (some ⟨g,0,none⟩) t.rows.length c2) t.cols (ur.set r ((.slice (some ⟨h,0,none⟩) (p.2.cells.length - 1) cu),⟨p.2.cells.eraseIdx a,p.2.whole⟩))):=fun W9 hg9 hc9=>OwnD.take HOD.out (by rw [hul]) hge (b:=h) (by rw [hpv];rfl) hg9 rfl hc9
   have hOCp:OwnC w2 W0.heap.size (.slice (some ⟨h,0,none⟩) p.2.cells.length cu) p.2.cells:=by
    have:=HOD.out.2.1.cells p (List.mem_of_getElem? hge)
    rw [hpv] at this
    exact this
   have hm5:p.2.cells.length≤1048576:=by
    have:=H5.out p.2 (by rw [← hur];exact List.mem_map_of_mem (List.mem_of_getElem? hge))
    exact this
   have hgz:g ≠ bz:=fun e=>by subst e;rw [HT4.out] at harr;simp at harr
   have hgx:g ≠ xb:=fun e=>by subst e;rw [HX.out] at harr;simp at harr
   have hgw:w.heap.size≤g:=by
    have:=(row_lt HOD.out.2.1.own (b:=g) rfl).1
    omega
   have hxl:xb < w2.heap.size:=(Array.getElem?_eq_some_iff.1 HX.out).1
   have hhx:h ≠ xb:=fun e=>by subst e;rw [HX.out] at hh1;simp at hh1
   have hhl:h < w2.heap.size:=(Array.getElem?_eq_some_iff.1 hh1).1
   have hhz:h ≠ bz:=fun e=>by subst e;rw [HT4.out] at hh1;simp at hh1
   have hBw:w.heap.size≤h:=by
    have:=(row_lt (HOD.out.2.1.cells p (List.mem_of_getElem? hge)) (b:=h) (by rw [hpv];rfl)).1
    omega
   have KB:=Hid.intro (behindTake_yes xb (.pointer (some ⟨xb,0,none⟩)) (.pointer (some ⟨br,0,none⟩)) (.pointer (some ⟨ba,0,none⟩)) a1 (some ⟨g,0,none⟩) t.cols.length c1 t.rows.length c2 t.head t.foot t.gap w2
    (fun W=>OwnD W W0.heap.size xb (.slice a1 t.cols.length c1) (.slice (some ⟨g,0,none⟩) t.rows.length c2) t.cols (ur.set r ((.slice (some ⟨h,0,none⟩) (p.2.cells.length - 1) cu),⟨p.2.cells.eraseIdx a,p.2.whole⟩))∧Below w.heap.size w W∧W.heap[bz]?=some (.cells #[.slice none 0 0,.int .i64 0,.int .i64 0,.slice none 0 0,.int .i64 0] 37))
    (fun W W' ⟨p1,p2,p3⟩ hk hs ho ht hu=>⟨p1.other (n:=w2.heap.size) (by omega) hk,below_other p2 (n:=w2.heap.size) (by omega) hk hs ho ht hu,(hk bz (by omega)).trans p3⟩)
    ((closTake xb br ba g h r a t.rows.length c2 p.2.cells.length cu W0.heap.size a1 t.cols.length c1 (.int .i64 t.head) (.int .i64 t.foot) (.int .i64 t.gap) p.2.cells arr (w2.alloc (.cells #[.slice none 0 0,.int .i64 0,.int .i64 0,.slice none 0 0,.int .i64 0] 37)) (alloc_at HX.out) (alloc_at HT1.out) (alloc_at HT2.out) (alloc_at harr) hrl ha0 rfl hal hm5 (row_kept9 hOCp (k_alloc (Below.refl _ _) _))).mono (fun e w' ⟨e1,W9,hg9,hc9,e2⟩=>by
     have hg9':w2.grownBy W9 (some h):=grown_trans (grown_below (k_alloc (Below.refl _ _) (.cells #[.slice none 0 0,.int .i64 0,.int .i64 0,.slice none 0 0,.int .i64 0] 37))) hg9
     have hot:∀ k,k ≠ h→k ≠ g→k < w2.heap.size+1→w'.heap[k]?=(w2.alloc (.cells #[.slice none 0 0,.int .i64 0,.int .i64 0,.slice none 0 0,.int .i64 0] 37)).heap[k]?:=fun k hk hk2 hl=>by
      rw [e2,Below.heap_setCell _ _ _ _ (by dsimp only;exact hk2)]
      exact hg9.block k (by simp;omega) (fun e=>hk (Option.some.inj e))
     have hbl:Below w.heap.size w w':=by
      rw [e2]
      exact ((HK0.out.grown hg9' (by omega) (fun q hq=>by simp at hq;omega))).setCell hgw _
     refine ⟨e1,⟨by rw [e2];exact HOw.out W9 hg9' hc9,hbl,?_⟩,?_,?_⟩
     ·exact (hot bz (fun e=>hhz e.symm) (fun e=>hgz e.symm) (by omega)).trans (alloc_at HT4.out)
     ·exact (hot xb (fun e=>hhx e.symm) (fun e=>hgx e.symm) (by omega)).trans (alloc_at HX.out)
     ·exact (hot w2.heap.size (by omega) (by omega) (by omega)).trans (newestB _ _))))
   clear ha0 ha1 hh1 hh2 hh3 hh4 harr hasz hg1 hg2 hgl hgB HOw HT1 HT2 HK0 hOCp HOD HX HT4
   go_wp2_with fail
   refine KB.out.mono ?_
   rintro e w4 ⟨rfl,hD4,hK4,hZ4⟩
   have HD4:=Hid.intro hD4
   have HK4:=Hid.intro hK4
   obtain ⟨d0,d1,d2,d3,d4⟩:=fiveO hZ4
   have fz:∀ p,w4.frozen? ⟨bz,p,none⟩=false:=fun p=>freeB hZ4
   have HUr:Hid ((ur.set r ((.slice (some ⟨h,0,none⟩) (p.2.cells.length - 1) cu),⟨p.2.cells.eraseIdx a,p.2.whole⟩)).map (·.2)=(setRow t r (p.2.cells.eraseIdx a)).rows):=by
    show _=_
    rw [map_set_snd,hur,setRow,hpr]
   clear hD4 hK4 hZ4 KB
   go_wp2
   exact bodyPost_ret (v:=.tuple #[.agg #[.slice a1 t.cols.length c1,.int .i64 t.head,.int .i64 t.foot,.slice (some ⟨g,0,none⟩) t.rows.length c2,.int .i64 t.gap],.bool true]) (by simp [results,Try.results18,go_sem,d0,d1,d2,d3,d4]) rfl ⟨a1,c1,some ⟨g,0,none⟩,c2,_,_,by rw [HE.out];rfl,by rw [HE.out];exact OwnT.base (OwnT.since (own_lt HD4.out rfl HUr.out) (Since.set (Since.set (Since.set (Since.set (Since.set (Since.refl _ _) (p:=⟨bz,0,none⟩) hsz _) (p:=⟨bz,1,none⟩) hsz _) (p:=⟨bz,2,none⟩) hsz _) (p:=⟨bz,3,none⟩) hsz _) (p:=⟨bz,4,none⟩) hsz _)) (by omega),k_set (k_set (k_set (k_set (k_set HK4.out hl4 _) hl4 _) hl4 _) hl4 _) hl4 _⟩
end Go.Proofs.Ytggmjiddadjilaj
