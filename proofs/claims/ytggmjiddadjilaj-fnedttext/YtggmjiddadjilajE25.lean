/-
  PROVED HERE: boxes that are newly made, and how many cells a row of a table that is ok has. Also: what the program's EdtText answers: of a table that is ok the table with another text of one cell, or the table as it is, in memory of its own; else nothing; nothing that was in memory is turned. Also: an append to what is owned, whatever slice is put behind it; rows that are owned grow by one.
-/
import Derived.Test.YtggmjiddadjilajE22
import Derived.Test.YtggmjiddadjilajE23
import Derived.Test.YtggmjiddadjilajE24
import Derived.Test.YtggmjiddadjilajE7
import Derived.Laws.AppendOwn
import Derived.Laws.OwnMore
namespace Go.Proofs.Ytggmjiddadjilaj
open Go.RowKit

theorem alloc_at {w:World} {k:Nat} {o q:Obj} (h:w.heap[k]?=some q):(w.alloc o).heap[k]?=some q:=(Below.heap_alloc w o k (Array.getElem?_eq_some_iff.1 h).1).trans h
theorem alloc_new {w:World} {o:Obj} {k:Nat} (h:w.heap.size=k):(w.alloc o).heap[k]?=some o:=by subst h;exact newestB w o
theorem cells_5 {t:T} (h:tblB t=true):∀ r ∈ t.rows,r.cells.length≤1048576:=by
 intro r hr
 obtain ⟨i,hi,rfl⟩:=List.mem_iff_getElem.1 hr
 have:=(tbl_bounds h).2.2.2 i hi
 rw [getD_get dR hi] at this
 omega
end Go.Proofs.Ytggmjiddadjilaj
namespace Go.Proofs.Ytggmjiddadjilaj
open Go.RowKit

set_option maxRecDepth 100000 in
set_option maxHeartbeats 4000000 in
theorem implEdtText (ac ar:Option Addr) (cc cr:Nat) (t:T) (row at':Int) (hrow:-9223372036854775808≤row∧row≤9223372036854775807) (s:ByteArray) (hs:s.size≤maxLen) (w:World) {z:Nat} (hc:ColsAt w z (.slice ac t.cols.length cc) t.cols) (hr:RowsAt w z (.slice ar t.rows.length cr) t.rows) :
  Calls Try.prog 24 #[.agg #[.slice ac t.cols.length cc,.int .i64 t.head,.int .i64 t.foot,.slice ar t.rows.length cr,.int .i64 t.gap],.int .i64 row,.int .i64 at',.string s] w fun e w'=>∃ a1 c1 a2 c2 d1 d2,e=.returned (.tuple #[.agg #[.slice a1 d1 c1,.int .i64 (edText t row at' s).1.head,.int .i64 (edText t row at' s).1.foot,.slice a2 d2 c2,.int .i64 (edText t row at' s).1.gap],.bool (edText t row at' s).2])∧OwnT w' w.heap.size (.slice a1 d1 c1) (.slice a2 d2 c2) (edText t row at' s).1∧Below w.heap.size w w':=by
 have hmf:∀ (fn:Fn) (first cap:Array Value) (W:World),(Instr.makeFunc fn first cap).run Try.prog W=.ok (.func fn first cap) W:=fun _ _ _ _=>rfl
 obtain ⟨W0,hW0⟩:∃ W0,((((w.alloc (.cells #[.slice ac t.cols.length cc,.int .i64 t.head,.int .i64 t.foot,.slice ar t.rows.length cr,.int .i64 t.gap] 37)).alloc (.cells #[.int .i64 row] 3)).alloc (.cells #[.int .i64 at'] 3)).alloc (.cells #[.string s] 9)).alloc (.cells #[.slice none 0 0,.int .i64 0,.int .i64 0,.slice none 0 0,.int .i64 0] 37)=W0:=⟨_,rfl⟩
 have K0:Below w.heap.size w W0:=by rw [← hW0];exact k_alloc (k_alloc (k_alloc (k_alloc (k_alloc (Below.refl _ _) _) _) _) _) _
 have T0:W0.heap[w.heap.size]?=some (.cells #[.slice ac t.cols.length cc,.int .i64 t.head,.int .i64 t.foot,.slice ar t.rows.length cr,.int .i64 t.gap] 37):=by rw [← hW0];exact alloc_at (alloc_at (alloc_at (alloc_at (newestB _ _))))
 have T1:W0.heap[w.heap.size+1]?=some (.cells #[.int .i64 row] 3):=by rw [← hW0];exact alloc_at (alloc_at (alloc_at (alloc_new (by simp))))
 have T2:W0.heap[w.heap.size+1+1]?=some (.cells #[.int .i64 at'] 3):=by rw [← hW0];exact alloc_at (alloc_at (alloc_new (by simp)))
 have T3:W0.heap[w.heap.size+1+1+1]?=some (.cells #[.string s] 9):=by rw [← hW0];exact alloc_at (alloc_new (by simp))
 have T4:W0.heap[w.heap.size+1+1+1+1]?=some (.cells #[.slice none 0 0,.int .i64 0,.int .i64 0,.slice none 0 0,.int .i64 0] 37):=by rw [← hW0];exact alloc_new (by simp)
 have hsz:w.heap.size+1+1+1+1 < W0.heap.size:=(Array.getElem?_eq_some_iff.1 T4).1
 have KO:=Hid.intro (implCopyOf ac ar cc cr t W0 (hc.kept K0) (hr.kept K0))
 have HTx:=Hid.intro (txM_at hr)
 have HK0:=Hid.intro K0
 obtain ⟨b0,b1,b2,b3,b4⟩:=fiveO T0
 have HT1:=Hid.intro T1
 have HT2:=Hid.intro T2
 have HT3:=Hid.intro T3
 have HT4:=Hid.intro T4
 clear hc hr K0 T0 T1 T2 T3 T4
 go_enter Try.func24,Try.ntmps24
 go_upto_region 1 with fail
 clear hW0
 have hl4:w.heap.size≤w.heap.size+1+1+1+1:=by omega
 generalize w.heap.size+1+1+1+1=bz at HT4 hsz hl4 ⊢
 generalize w.heap.size+1+1+1=bs at HT3 ⊢
 generalize w.heap.size+1+1=ba at HT2 ⊢
 generalize w.heap.size+1=br at HT1 ⊢
 go_wp2_with fail
 refine KO.out.mono ?_
 rintro e w1 ⟨hcase,hb1⟩
 have hlz1:=Nat.lt_of_lt_of_le hsz hb1.size
 replace HT1:=Hid.intro ((hb1.block _ (Array.getElem?_eq_some_iff.1 HT1.out).1).trans HT1.out)
 replace HT2:=Hid.intro ((hb1.block _ (Array.getElem?_eq_some_iff.1 HT2.out).1).trans HT2.out)
 replace HT3:=Hid.intro ((hb1.block _ (Array.getElem?_eq_some_iff.1 HT3.out).1).trans HT3.out)
 replace HT4:=Hid.intro ((hb1.block _ (Array.getElem?_eq_some_iff.1 HT4.out).1).trans HT4.out)
 replace HK0:=Hid.intro (k_trans HK0.out hb1)
 clear KO b0 b1 b2 b3 b4
 rcases hcase with ⟨htk,rfl⟩ | ⟨htk,a1,c1,a2,c2,rfl,hO1⟩
 ·have HE:Hid (edText t row at' s=(zT,false)):=by show _=_;rw [edText,if_neg (by rw [htk];simp)]
  replace HT4:=Hid.intro (alloc_at (o:=(.cells #[.slice none 0 0,.int .i64 0,.int .i64 0,.slice none 0 0,.int .i64 0] 37)) HT4.out)
  replace HK0:=Hid.intro (k_alloc HK0.out (.cells #[.slice none 0 0,.int .i64 0,.int .i64 0,.slice none 0 0,.int .i64 0] 37))
  have HX:Hid ((w1.alloc (.cells #[.slice none 0 0,.int .i64 0,.int .i64 0,.slice none 0 0,.int .i64 0] 37)).heap[w1.heap.size]?=some (.cells #[.slice none 0 0,.int .i64 0,.int .i64 0,.slice none 0 0,.int .i64 0] 37)):=newestB _ _
  clear HT1 HT2 HT3 hb1 htk
  go_upto_region 2 with fail
  generalize w1.alloc (.cells #[.slice none 0 0,.int .i64 0,.int .i64 0,.slice none 0 0,.int .i64 0] 37)=W1 at HT4 HK0 HX ⊢
  generalize w1.heap.size=xb at HX hlz1 ⊢
  have KB:=Hid.intro (fun p0 p1 p2 p3=>behindText_no xb p0 p1 p2 p3 none none 0 0 0 0 0 0 0 W1 HX.out)
  obtain ⟨x0,x1,x2,x3,x4⟩:=fiveO HX.out
  go_wp2_with fail
  refine (KB.out _ _ _ _).mono ?_
  rintro e w2 ⟨rfl,hb2⟩
  replace HT4:=Hid.intro ((hb2.block _ (Array.getElem?_eq_some_iff.1 HT4.out).1).trans HT4.out)
  replace HK0:=Hid.intro (k_trans HK0.out hb2)
  obtain ⟨d0,d1,d2,d3,d4⟩:=fiveO HT4.out
  have fz:∀ p,w2.frozen? ⟨bz,p,none⟩=false:=fun p=>freeB HT4.out
  clear hb2 x0 x1 x2 x3 x4 KB
  go_wp2
  exact bodyPost_ret (v:=.tuple #[.agg #[.slice none 0 0,.int .i64 0,.int .i64 0,.slice none 0 0,.int .i64 0],.bool false]) (by simp [results,Try.results24,go_sem,d0,d1,d2,d3,d4]) rfl ⟨none,0,none,0,0,0,by rw [HE.out];rfl,by rw [HE.out];exact ⟨[],rfl,⟨rfl,.inl ⟨rfl,rfl⟩⟩,⟨⟨rfl,.inl ⟨rfl,rfl⟩⟩,fun p hp=>absurd hp (by simp),.nil⟩⟩,k_set (k_set (k_set (k_set (k_set HK0.out hl4 _) hl4 _) hl4 _) hl4 _) hl4 _⟩
 ·obtain ⟨ur,hur,hOc,hOr⟩:=hO1
  have Hur:=Hid.intro hur
  have HOD:=Hid.intro ((OwnD.of hOc hOr).kept (k_alloc (Below.refl _ _) (.cells #[.slice a1 t.cols.length c1,.int .i64 t.head,.int .i64 t.foot,.slice a2 t.rows.length c2,.int .i64 t.gap] 37)))
  have HTM:Hid (RowsAt (w1.alloc (.cells #[.slice a1 t.cols.length c1,.int .i64 t.head,.int .i64 t.foot,.slice a2 t.rows.length c2,.int .i64 t.gap] 37)) W0.heap.size (.slice a2 t.rows.length c2) t.rows):=OwnT.rows (own_lt (t:=t) HOD.out rfl hur) HTx.out
  replace HT1:=Hid.intro (alloc_at (o:=(.cells #[.slice a1 t.cols.length c1,.int .i64 t.head,.int .i64 t.foot,.slice a2 t.rows.length c2,.int .i64 t.gap] 37)) HT1.out)
  replace HT2:=Hid.intro (alloc_at (o:=(.cells #[.slice a1 t.cols.length c1,.int .i64 t.head,.int .i64 t.foot,.slice a2 t.rows.length c2,.int .i64 t.gap] 37)) HT2.out)
  replace HT3:=Hid.intro (alloc_at (o:=(.cells #[.slice a1 t.cols.length c1,.int .i64 t.head,.int .i64 t.foot,.slice a2 t.rows.length c2,.int .i64 t.gap] 37)) HT3.out)
  replace HT4:=Hid.intro (alloc_at (o:=(.cells #[.slice a1 t.cols.length c1,.int .i64 t.head,.int .i64 t.foot,.slice a2 t.rows.length c2,.int .i64 t.gap] 37)) HT4.out)
  replace HK0:=Hid.intro (k_alloc HK0.out (.cells #[.slice a1 t.cols.length c1,.int .i64 t.head,.int .i64 t.foot,.slice a2 t.rows.length c2,.int .i64 t.gap] 37))
  have HX:Hid ((w1.alloc (.cells #[.slice a1 t.cols.length c1,.int .i64 t.head,.int .i64 t.foot,.slice a2 t.rows.length c2,.int .i64 t.gap] 37)).heap[w1.heap.size]?=some (.cells #[.slice a1 t.cols.length c1,.int .i64 t.head,.int .i64 t.foot,.slice a2 t.rows.length c2,.int .i64 t.gap] 37)):=newestB _ _
  have HEd:Hid (edText t row at' s=if (hasB t row at' && txtOkB s)=true then (setRow t row.toNat ((t.rows.getD row.toNat dR).cells.set at'.toNat (txC ((t.rows.getD row.toNat dR).cells.getD at'.toNat dC) s)),true) else (t,false)):=by show _=_;rw [edText,if_pos htk]
  have H5:=Hid.intro (cells_5 htk)
  have hxW:w1.heap.size < (w1.alloc (.cells #[.slice a1 t.cols.length c1,.int .i64 t.head,.int .i64 t.foot,.slice a2 t.rows.length c2,.int .i64 t.gap] 37)).heap.size:=by simp
  clear hOc hOr hb1 htk hur HTx
  go_upto_region 2 with fail
  generalize w1.alloc (.cells #[.slice a1 t.cols.length c1,.int .i64 t.head,.int .i64 t.foot,.slice a2 t.rows.length c2,.int .i64 t.gap] 37)=W1 at HT1 HT2 HT3 HT4 HK0 HX HOD HTM hxW ⊢
  generalize w1.heap.size=xb at HX HOD hlz1 hxW ⊢
  obtain ⟨x0,x1,x2,x3,x4⟩:=fiveO HX.out
  have y1:=cellB (p:=0) HT1.out
  have y2:=cellB (p:=0) HT2.out
  have KH:=Hid.intro (implHasCell a1 a2 c1 c2 t row at' hrow H5.out W1 HTM.out)
  cases hh:hasB t row at' with
  | false =>
   rw [hh] at KH
   have HE:Hid (edText t row at' s=(t,false)):=by show _=_;rw [HEd.out,if_neg (by rw [hh];simp)]
   clear hh HEd
   go_wp2_with fail
   refine KH.out.mono ?_
   rintro e w2 ⟨rfl,hb2⟩
   have hx2:=hb2.size
   replace HT1:=Hid.intro ((hb2.block _ (Array.getElem?_eq_some_iff.1 HT1.out).1).trans HT1.out)
   replace HT2:=Hid.intro ((hb2.block _ (Array.getElem?_eq_some_iff.1 HT2.out).1).trans HT2.out)
   replace HT3:=Hid.intro ((hb2.block _ (Array.getElem?_eq_some_iff.1 HT3.out).1).trans HT3.out)
   replace HT4:=Hid.intro ((hb2.block _ (Array.getElem?_eq_some_iff.1 HT4.out).1).trans HT4.out)
   replace HX:=Hid.intro ((hb2.block _ (Array.getElem?_eq_some_iff.1 HX.out).1).trans HX.out)
   replace HK0:=Hid.intro (k_trans HK0.out hb2)
   replace HOD:=Hid.intro (HOD.out.kept hb2)
   clear hb2 KH x0 x1 x2 x3 x4 y1 y2 HTM
   have KB:=Hid.intro (fun p0 p1 p2 p3=>behindText_no xb p0 p1 p2 p3 a1 a2 t.cols.length c1 t.rows.length c2 t.head t.foot t.gap w2 HX.out)
   go_wp2_with fail
   refine (KB.out _ _ _ _).mono ?_
   rintro e w4 ⟨rfl,hb4⟩
   replace HT4:=Hid.intro ((hb4.block _ (Array.getElem?_eq_some_iff.1 HT4.out).1).trans HT4.out)
   replace HK0:=Hid.intro (k_trans HK0.out hb4)
   replace HOD:=Hid.intro (HOD.out.kept hb4)
   obtain ⟨d0,d1,d2,d3,d4⟩:=fiveO HT4.out
   have fz:∀ p,w4.frozen? ⟨bz,p,none⟩=false:=fun p=>freeB HT4.out
   clear hb4 KB
   go_wp2
   exact bodyPost_ret (v:=.tuple #[.agg #[.slice a1 t.cols.length c1,.int .i64 t.head,.int .i64 t.foot,.slice a2 t.rows.length c2,.int .i64 t.gap],.bool false]) (by simp [results,Try.results24,go_sem,d0,d1,d2,d3,d4]) rfl ⟨a1,c1,a2,c2,_,_,by rw [HE.out],by rw [HE.out];exact OwnT.base (OwnT.since (own_lt HOD.out rfl Hur.out) (Since.set (Since.set (Since.set (Since.set (Since.set (Since.refl _ _) (p:=⟨bz,0,none⟩) hsz _) (p:=⟨bz,1,none⟩) hsz _) (p:=⟨bz,2,none⟩) hsz _) (p:=⟨bz,3,none⟩) hsz _) (p:=⟨bz,4,none⟩) hsz _)) (by omega),k_set (k_set (k_set (k_set (k_set HK0.out hl4 _) hl4 _) hl4 _) hl4 _) hl4 _⟩
  | true =>
   rw [hh] at KH
   have Hh:=Hid.intro hh
   clear hh
   go_wp2_with fail
   refine KH.out.mono ?_
   rintro e w2 ⟨rfl,hb2⟩
   have hx2:=hb2.size
   replace HT1:=Hid.intro ((hb2.block _ (Array.getElem?_eq_some_iff.1 HT1.out).1).trans HT1.out)
   replace HT2:=Hid.intro ((hb2.block _ (Array.getElem?_eq_some_iff.1 HT2.out).1).trans HT2.out)
   replace HT3:=Hid.intro ((hb2.block _ (Array.getElem?_eq_some_iff.1 HT3.out).1).trans HT3.out)
   replace HT4:=Hid.intro ((hb2.block _ (Array.getElem?_eq_some_iff.1 HT4.out).1).trans HT4.out)
   replace HX:=Hid.intro ((hb2.block _ (Array.getElem?_eq_some_iff.1 HX.out).1).trans HX.out)
   replace HK0:=Hid.intro (k_trans HK0.out hb2)
   replace HOD:=Hid.intro (HOD.out.kept hb2)
   clear hb2 KH x0 x1 x2 x3 x4 y1 y2 HTM
   have y3:=cellB (p:=0) HT3.out
   have KX:=Hid.intro (implTxtOk s w2 hs)
   cases htx:txtOkB s with
   | false =>
    rw [htx] at KX
    have HE:Hid (edText t row at' s=(t,false)):=by show _=_;rw [HEd.out,if_neg (by rw [htx];simp)]
    clear htx HEd
    go_wp2_with fail
    refine KX.out.mono ?_
    rintro e w3 ⟨rfl,e3⟩
    subst e3
    clear y3 KX
    have KB:=Hid.intro (fun p0 p1 p2 p3=>behindText_no xb p0 p1 p2 p3 a1 a2 t.cols.length c1 t.rows.length c2 t.head t.foot t.gap w3 HX.out)
    go_wp2_with fail
    refine (KB.out _ _ _ _).mono ?_
    rintro e w4 ⟨rfl,hb4⟩
    replace HT4:=Hid.intro ((hb4.block _ (Array.getElem?_eq_some_iff.1 HT4.out).1).trans HT4.out)
    replace HK0:=Hid.intro (k_trans HK0.out hb4)
    replace HOD:=Hid.intro (HOD.out.kept hb4)
    obtain ⟨d0,d1,d2,d3,d4⟩:=fiveO HT4.out
    have fz:∀ p,w4.frozen? ⟨bz,p,none⟩=false:=fun p=>freeB HT4.out
    clear hb4 KB
    go_wp2
    exact bodyPost_ret (v:=.tuple #[.agg #[.slice a1 t.cols.length c1,.int .i64 t.head,.int .i64 t.foot,.slice a2 t.rows.length c2,.int .i64 t.gap],.bool false]) (by simp [results,Try.results24,go_sem,d0,d1,d2,d3,d4]) rfl ⟨a1,c1,a2,c2,_,_,by rw [HE.out],by rw [HE.out];exact OwnT.base (OwnT.since (own_lt HOD.out rfl Hur.out) (Since.set (Since.set (Since.set (Since.set (Since.set (Since.refl _ _) (p:=⟨bz,0,none⟩) hsz _) (p:=⟨bz,1,none⟩) hsz _) (p:=⟨bz,2,none⟩) hsz _) (p:=⟨bz,3,none⟩) hsz _) (p:=⟨bz,4,none⟩) hsz _)) (by omega),k_set (k_set (k_set (k_set (k_set HK0.out hl4 _) hl4 _) hl4 _) hl4 _) hl4 _⟩
   | true =>
    rw [htx] at KX
    have HE:Hid (edText t row at' s=(setRow t row.toNat ((t.rows.getD row.toNat dR).cells.set at'.toNat (txC ((t.rows.getD row.toNat dR).cells.getD at'.toNat dC) s)),true)):=by show _=_;rw [HEd.out,if_pos (by rw [Hh.out,htx];rfl)]
    clear htx HEd
    go_wp2_with fail
    refine KX.out.mono ?_
    rintro e w3 ⟨rfl,e3⟩
    subst e3
    clear y3 KX
    obtain ⟨r,a,rfl,rfl,hrl,hal⟩:=hasB_iff.1 Hh.out
    rw [Int.toNat_natCast,Int.toNat_natCast] at HE
    have hur:=Hur.out
    have hul:ur.length=t.rows.length:=by rw [← hur,List.length_map]
    have hge:ur[r]?=some (ur[r]'(by omega)):=List.getElem?_eq_getElem (by omega)
    have hpr:(ur[r]'(by omega)).2=t.rows.getD r dR:=by rw [← map_snd_get hge,hur]
    generalize hpE:ur[r]'(by omega)=p at hge hpr
    clear hpE
    rw [← hpr] at hal HE
    obtain ⟨g,cg,arr,ev,hg1,hg2,hgl,hgB,harr,hasz,ha0,ha1⟩:=own_get HOD.out.2.1 hge
    rw [hul] at ev hg1
    simp only [Value.slice.injEq,true_and] at ev
    obtain ⟨rfl,rfl⟩:=ev
    obtain ⟨h,cu,cur,hpv,hh1,hh2,hh3,hh4⟩:=own_row HOD.out.2.1 hge hal
    rw [hpv] at ha0
    have hDx:=hlz1
    have HOw:Hid (∀ W9,Below w3.heap.size w3 W9→OwnD (W9.setCell ⟨h,a * 11,none⟩ (.string s)) W0.heap.size xb (.slice a1 t.cols.length c1) (.slice (some ⟨g,0,none⟩) t.rows.length c2) t.cols (ur.set r (p.1,⟨p.2.cells.set a (txC (p.2.cells.getD a dC) s),p.2.whole⟩))):=fun W9 hb9=>OwnD.put HOD.out hb9 hge (j:=0) hpv hal (by decide) (by rw [getD_get dC hal];rfl)
    have hxl:xb < w3.heap.size:=(Array.getElem?_eq_some_iff.1 HX.out).1
    have hhx:h ≠ xb:=fun e=>by subst e;rw [HX.out] at hh1;simp at hh1
    have hhl:h < w3.heap.size:=(Array.getElem?_eq_some_iff.1 hh1).1
    have hhz:h ≠ bz:=fun e=>by subst e;rw [HT4.out] at hh1;simp at hh1
    have hBw:w.heap.size≤h:=by
     have:=(row_lt (HOD.out.2.1.cells p (List.mem_of_getElem? hge)) (b:=h) (by rw [hpv];rfl)).1
     omega
    have KB:=Hid.intro (behindText_yes xb (.pointer (some ⟨bs,0,none⟩)) (.pointer (some ⟨xb,0,none⟩)) (.pointer (some ⟨br,0,none⟩)) (.pointer (some ⟨ba,0,none⟩)) a1 (some ⟨g,0,none⟩) t.cols.length c1 t.rows.length c2 t.head t.foot t.gap w3
     (fun W=>OwnD W W0.heap.size xb (.slice a1 t.cols.length c1) (.slice (some ⟨g,0,none⟩) t.rows.length c2) t.cols (ur.set r (p.1,⟨p.2.cells.set a (txC (p.2.cells.getD a dC) s),p.2.whole⟩))∧Below w.heap.size w W∧W.heap[bz]?=some (.cells #[.slice none 0 0,.int .i64 0,.int .i64 0,.slice none 0 0,.int .i64 0] 37))
     (fun W W' ⟨p1,p2,p3⟩ hk hs ho ht hu=>⟨p1.other (n:=w3.heap.size) (by omega) hk,below_other p2 (n:=w3.heap.size) (by omega) hk hs ho ht hu,(hk bz (by omega)).trans p3⟩)
     ((closText bs xb br ba g h r a t.rows.length c2 p.2.cells.length cu a1 t.cols.length c1 (.int .i64 t.head) (.int .i64 t.foot) (.int .i64 t.gap) s arr cur (w3.alloc (.cells #[.slice none 0 0,.int .i64 0,.int .i64 0,.slice none 0 0,.int .i64 0] 37)) (alloc_at HX.out) (alloc_at HT3.out) (alloc_at HT1.out) (alloc_at HT2.out) (alloc_at harr) hrl ha0 (alloc_at hh1) hal hh2 hh4).mono (fun e w' ⟨e1,W9,hb9,e2⟩=>by
      have hb9':Below w3.heap.size w3 W9:=(k_alloc (Below.refl _ _) (.cells #[.slice none 0 0,.int .i64 0,.int .i64 0,.slice none 0 0,.int .i64 0] 37)).trans (hb9.mono (by simp))
      subst e2
      refine ⟨e1,⟨HOw.out W9 hb9',(HK0.out.trans (hb9'.mono (by omega))).setCell hBw _,?_⟩,?_,?_⟩
      ·exact (Below.heap_setCell _ _ _ _ (by dsimp only;exact fun e=>hhz e.symm)).trans ((hb9'.block bz (by omega)).trans HT4.out)
      ·exact (Below.heap_setCell _ _ _ _ (by dsimp only;exact fun e=>hhx e.symm)).trans ((hb9'.block xb hxl).trans HX.out)
      ·exact (Below.heap_setCell _ _ _ _ (by dsimp only;omega)).trans ((hb9.block w3.heap.size (by simp)).trans (newestB _ _)))))
    clear ha0 ha1 hh1 hh2 hh3 hh4 harr hasz hg1 hg2 hgl hgB HOw HT1 HT2 HT3 HK0 HOD HX HT4
    go_wp2_with fail
    refine KB.out.mono ?_
    rintro e w4 ⟨rfl,hD4,hK4,hZ4⟩
    have HD4:=Hid.intro hD4
    have HK4:=Hid.intro hK4
    obtain ⟨d0,d1,d2,d3,d4⟩:=fiveO hZ4
    have fz:∀ p,w4.frozen? ⟨bz,p,none⟩=false:=fun p=>freeB hZ4
    have HUr:Hid ((ur.set r (p.1,⟨p.2.cells.set a (txC (p.2.cells.getD a dC) s),p.2.whole⟩)).map (·.2)=(setRow t r (p.2.cells.set a (txC (p.2.cells.getD a dC) s))).rows):=by
     show _=_
     rw [map_set_snd,hur,setRow,hpr]
    clear hD4 hK4 hZ4 KB
    go_wp2
    exact bodyPost_ret (v:=.tuple #[.agg #[.slice a1 t.cols.length c1,.int .i64 t.head,.int .i64 t.foot,.slice (some ⟨g,0,none⟩) t.rows.length c2,.int .i64 t.gap],.bool true]) (by simp [results,Try.results24,go_sem,d0,d1,d2,d3,d4]) rfl ⟨a1,c1,some ⟨g,0,none⟩,c2,_,_,by rw [HE.out];rfl,by rw [HE.out];exact OwnT.base (OwnT.since (own_lt HD4.out rfl HUr.out) (Since.set (Since.set (Since.set (Since.set (Since.set (Since.refl _ _) (p:=⟨bz,0,none⟩) hsz _) (p:=⟨bz,1,none⟩) hsz _) (p:=⟨bz,2,none⟩) hsz _) (p:=⟨bz,3,none⟩) hsz _) (p:=⟨bz,4,none⟩) hsz _)) (by omega),k_set (k_set (k_set (k_set (k_set HK4.out hl4 _) hl4 _) hl4 _) hl4 _) hl4 _⟩
end Go.Proofs.Ytggmjiddadjilaj
namespace Go.Proofs.Ytggmjiddadjilaj
open Go.RowKit

theorem run_append_none {P:Program} {w:World} (base:Nat) (t ty e:TypeId) (i:TypeInfo) (size c:Nat) (ht:P.underlying t=some (.slice e)) (hi:P.info? e=some i)
  (v:Value) (n:Nat) (xs:List Value) (hown:w.ownsRow base e size v n xs):(Builtin.append_ #[t,t] ty #[v,.slice none 0 c]).run P w=.ok v w:=by
 rcases hown.2 with ⟨rfl,rfl⟩ | ⟨g,cap,cur,rfl,_,_,hnc,_⟩
 ·simp [Builtin.append_,run_underlying ht,sizeOf,typeInfo,hi,Builtin.lenOf,Builtin.firstCells]
 ·simp [Builtin.append_,run_underlying ht,sizeOf,typeInfo,hi,Builtin.lenOf,Builtin.firstCells,hnc,storeCells]
theorem wp_append_src {P:Program} (w:World) {o:Oper} {a:Act} {K:Act→World→Prop} {Q:Exit→Act→World→Prop} (s x:Operand) (t:TypeId)
  (ho:o.op=.call { callee:=.builtin .append,args:=#[s,x],argTypes:=#[t,t] })
  (base:Nat) (e:TypeId) (i:TypeInfo) (z:Value) (size bytes:Nat) (ht:P.underlying t=some (.slice e)) (hi:P.info? e=some i) (hz:i.zero=some z)
  (hsize:i.size=size) (hby:i.bytes=bytes) (hzs:z.cells.size=size) (hsz:0 < size)
  (v:Value) (n:Nat) (xs:List Value) (hs:a.eval s=v) (hown:w.ownsRow base e size v n xs)
  (ad:Option Addr) (m c:Nat) (news:List Value) (hx:a.eval x=.slice ad m c) (hm:m ≠ 0→ad ≠ none) (hl:news.length=m * size) (hnews:∀ p,ad=some p→∀ j u,news[j]?=some u→w.cell? (p.add j)=some u) (h1:∀ u ∈ news,u.oneCell'=true)
  (h63:n+m≤maxLen) (hbytes:(n+m) * bytes≤140737488355328) (hbase:base≤w.heap.size)
  (h:∀ v' w',w'.ownsRow base e size v' (n+m) (xs ++ news)→w.grownBy w' v.ownBlock→K (a.put o.dst v') w'):o.wp P a w K Q:=by
 rcases ad with _ | p
 ·obtain rfl:m=0:=by
   rcases Nat.eq_zero_or_pos m with h0 | h0
   ·exact h0
   ·exact absurd rfl (hm (by omega))
  obtain rfl:news=[]:=List.length_eq_zero_iff.1 (by omega)
  have hr:=run_append_none (P:=P) (w:=w) base t o.type e i size c ht hi v n xs hown
  unfold Oper.wp execOp
  simp only [ho,resolve,invoke,builtin,Sem.run_bind,Sem.run_pure,Result.andThen_ok,List.map_toArray,List.map_cons,List.map_nil,hs,hx,hr]
  exact h v w (by simpa using hown) ⟨rfl,rfl,rfl,Nat.le_refl _,fun _ _ _=>rfl⟩
 ·exact wp_append_own w s x t ho base e i z size bytes ht hi hz hsize hby hzs hsz v n xs hs hown p m c news hx hl (hnews p rfl) h1 h63 hbytes hbase (fun v' w' h1 h2 _=>h v' w' h1 h2)
/-- rows that are owned, and one more -/
theorem OwnR.push {w w':World} {B:Nat} {U v':Value} {ur:List (Value × R)} (h:OwnR w B U ur) (k:w.grownBy w' U.ownBlock) {u:Value} {r:R} (hO:w'.ownsRow B 52 2 v' (ur.length+1) (ur.flatMap rowVs ++ rowVs (u,r))) (hu:OwnC w B u r.cells) (ha:∀ p ∈ ur,p.1.ownBlock=none∨p.1.ownBlock ≠ u.ownBlock):OwnR w' B v' (ur ++ [(u,r)]):=by
 have hnn:∀ u:Value,u.ownBlock=none∨u.ownBlock ≠ none:=fun u=>by rcases hb:u.ownBlock with _ | b;exact .inl rfl;exact .inr (by simp)
 have K1:Off 0 none U.ownBlock w w':=Off.grown k
 refine ⟨by simpa [List.flatMap_append] using hO,fun p hp=>?_,?_⟩
 ·rcases List.mem_append.1 hp with hp | hp
  ·exact row_off (h.cells p hp) K1 (Nat.zero_le _) (hnn _) (row_ne (h.cells p hp) h.own (by decide))
  ·rw [List.mem_singleton] at hp
   subst hp
   exact row_off hu K1 (Nat.zero_le _) (hnn _) (row_ne hu h.own (by decide))
 ·rw [List.pairwise_append]
  refine ⟨h.apart,List.pairwise_singleton _ _,fun p hp q hq=>?_⟩
  rw [List.mem_singleton] at hq
  subst hq
  exact ha p hp
theorem OwnR.kept {w w':World} {B:Nat} {U:Value} {ur:List (Value × R)} (h:OwnR w B U ur) (k:Below w.heap.size w w'):OwnR w' B U ur:=h.since (.of_below k)
theorem news_cols {w:World} {z:Nat} {a:Option Addr} {cap:Nat} {ps:List (Int × Int)} (h:ColsAt w z (.slice a ps.length cap) ps):∀ p,a=some p→∀ j u,(ps.flatMap colVs)[j]?=some u→w.cell? (p.add j)=some u:=by
 refine news_flat colVs 2 (fun _=>rfl) (by decide) ps (fun i hi=>?_)
 obtain ⟨b,off,cap',e',_,_,_,h1,h2⟩:=At.get h hi
 simp only [Value.slice.injEq,true_and] at e'
 refine ⟨b,off,e'.1,fun m hm=>?_⟩
 rw [getD_get (0,0) hi] at h1 h2
 match m,hm with
 | 0,_=>exact h1
 | 1,_=>exact h2
theorem news_cells {w:World} {z:Nat} {a:Option Addr} {cap:Nat} {cs:List C} (h:CellsAt w z (.slice a cs.length cap) cs):∀ p,a=some p→∀ j u,(cs.flatMap cellVs)[j]?=some u→w.cell? (p.add j)=some u:=by
 refine news_flat cellVs 11 (fun _=>rfl) (by decide) cs (fun i hi=>?_)
 obtain ⟨b,off,cap',e',_,_,_,hx,_⟩:=At.get h hi
 simp only [Value.slice.injEq,true_and] at e'
 refine ⟨b,off,e'.1,fun m hm=>?_⟩
 rw [getD_get dC hi] at hx
 obtain ⟨h0,h1,h2,h3,h4,h5,h6,h7,h8,h9,h10⟩:=hx
 match m,hm with
 | 0,_=>exact h0
 | 1,_=>exact h1
 | 2,_=>exact h2
 | 3,_=>exact h3
 | 4,_=>exact h4
 | 5,_=>exact h5
 | 6,_=>exact h6
 | 7,_=>exact h7
 | 8,_=>exact h8
 | 9,_=>exact h9
 | 10,_=>exact h10
theorem row_alloc {w:World} {base:Nat} {e:TypeId} {sz:Nat} {v:Value} {m:Nat} {xs:List Value} (h:w.ownsRow base e sz v m xs) (o:Obj):(w.alloc o).ownsRow base e sz v m xs:=row_since h (.of_below (k_alloc (Below.refl _ _) o))
theorem grown_block {w w':World} {base:Nat} {e e':TypeId} {sz:Nat} {v:Value} {m:Nat} {xs:List Value} (h:w.ownsRow base e sz v m xs) (k:w.grownBy w' v.ownBlock) {g:Nat} {cur:Array Value} (hg:w.heap[g]?=some (.cells cur e')) (he:e ≠ e'):w'.heap[g]?=some (.cells cur e'):=by
 refine (k.block g (Array.getElem?_eq_some_iff.1 hg).1 (fun e1=>?_)).trans hg
 rcases row_ne_block h hg he with h4 | h4
 ·rw [h4] at e1;cases e1
 ·exact h4 e1.symm
end Go.Proofs.Ytggmjiddadjilaj
