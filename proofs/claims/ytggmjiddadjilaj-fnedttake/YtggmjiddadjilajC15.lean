/-
  PROVED HERE: what the model's EdtTake answers: of a table that is ok the table without one cell, or the table as it is, in memory of its own; else nothing; nothing that was in memory is turned.
-/
import Derived.Test.YtggmjiddadjilajC3
import Derived.Test.YtggmjiddadjilajC6
import Derived.Test.YtggmjiddadjilajC7
import Derived.Test.YtggmjiddadjilajC12
import Derived.Test.YtggmjiddadjilajC2
import Derived.Test.YtggmjiddadjilajC8
namespace Go.Proofs.Ytggmjiddadjilaj
open Go.RowKit
structure TsJ (xb g r a n c2 m cu bh oh:Nat) (A:Addr) (cs:List C) (W3:World) (L:Nat→Bool) (W:World) (v43 v44 v45 v46 v47 v48 v49 v50 v51 v52 v53 v54 v55 v56 v57:Value):Prop where
 f0:L 0=true→v43=.pointer (some ⟨xb,3,none⟩)
 f1:L 1=true→v44=.slice (some ⟨g,0,none⟩) n c2
 f2:L 2=true→v45=.int .i64 r
 f3:L 3=true→L 7=false→W.ownsRow W3.heap.size 41 11 v46 0 []
 f4:L 4=true→v47=.slice (some ⟨bh,oh,none⟩) m cu
 f5:L 5=true→v48=.int .i64 a
 f6:L 6=true→v49=.slice (some ⟨bh,oh,none⟩) a cu
 f7:L 7=true→L 12=false→W.ownsRow W3.heap.size 41 11 v50 a ((cs.take a).flatMap cellVs)
 f8:L 8=true→v51=.slice (some ⟨bh,oh,none⟩) m cu
 f9:L 9=true→v52=.int .i64 a
 f10:L 10=true→v53=.int .i64 ((a:Int)+1)
 f11:L 11=true→v54=.slice (some A) (m - (a+1)) (cu - (a+1))
 f12:L 12=true→L 15=false→∃ ad c,v55=.slice ad (a+(m - (a+1))) c∧OwnC W W3.heap.size v55 (cs.eraseIdx a)
 f13:L 13=true→v56=.pointer (some ⟨g,r * 2,none⟩)
 f14:L 14=true→v57=.pointer (some ⟨g,r * 2,none⟩)
 f15:L 15=true→∃ ad c W9,Below W3.heap.size W3 W9∧OwnC W9 W3.heap.size (.slice ad (a+(m - (a+1))) c) (cs.eraseIdx a)∧W=W9.setCell ⟨g,r * 2,none⟩ (.slice ad (a+(m - (a+1))) c)
 b:L 15=false→Below W3.heap.size W3 W
set_option maxRecDepth 100000 in
set_option maxHeartbeats 4000000 in
theorem specEdtTake (ac ar:Option Addr) (cc cr:Nat) (t:T) (row at':Int) (hrow:-9223372036854775808≤row∧row≤9223372036854775807) (w:World) {z:Nat} (hc:ColsAt w z (.slice ac t.cols.length cc) t.cols) (hr:RowsAt w z (.slice ar t.rows.length cr) t.rows) :
  Calls Try.prog 22 #[.agg #[.slice ac t.cols.length cc,.int .i64 t.head,.int .i64 t.foot,.slice ar t.rows.length cr,.int .i64 t.gap],.int .i64 row,.int .i64 at'] w fun e w'=>∃ a1 c1 a2 c2 d1 d2,e=.returned (.tuple #[.agg #[.slice a1 d1 c1,.int .i64 (edTake t row at').1.head,.int .i64 (edTake t row at').1.foot,.slice a2 d2 c2,.int .i64 (edTake t row at').1.gap],.bool (edTake t row at').2])∧OwnT w' w.heap.size (.slice a1 d1 c1) (.slice a2 d2 c2) (edTake t row at').1∧Below w.heap.size w w':=by
 obtain ⟨W0,hW0⟩:∃ W0,(w.alloc (.cells #[.slice ac t.cols.length cc,.int .i64 t.head,.int .i64 t.foot,.slice ar t.rows.length cr,.int .i64 t.gap] 37)).alloc (.cells #[.slice none 0 0,.int .i64 0,.int .i64 0,.slice none 0 0,.int .i64 0] 37)=W0:=⟨_,rfl⟩
 have K0:Below w.heap.size w W0:=by rw [← hW0];exact k_alloc (k_alloc (Below.refl _ _) _) _
 have T0:W0.heap[w.heap.size]?=some (.cells #[.slice ac t.cols.length cc,.int .i64 t.head,.int .i64 t.foot,.slice ar t.rows.length cr,.int .i64 t.gap] 37):=by rw [← hW0];exact alloc_at (newestB _ _)
 have T4:W0.heap[w.heap.size+1]?=some (.cells #[.slice none 0 0,.int .i64 0,.int .i64 0,.slice none 0 0,.int .i64 0] 37):=by rw [← hW0];exact alloc_new (by simp)
 have hsz:w.heap.size+1 < W0.heap.size:=(Array.getElem?_eq_some_iff.1 T4).1
 have KO:=Hid.intro (specTblOk ac ar cc cr t W0 (hc.kept K0) (hr.kept K0))
 have HCA:=Hid.intro hc
 have HRA:=Hid.intro hr
 have HK0:=Hid.intro K0
 have HT0:=Hid.intro T0
 have HT4:=Hid.intro T4
 obtain ⟨b0,b1,b2,b3,b4⟩:=fiveO T0
 clear hc hr K0 T0 T4
 go_enter Try.func22,Try.ntmps22
 go_upto_region 1 with fail
 clear hW0
 have hl4:w.heap.size≤w.heap.size+1:=by omega
 generalize w.heap.size+1=bz at HT4 hsz hl4 ⊢
 cases htk:tblB t with
 | false =>
  rw [htk] at KO
  have HE:Hid (edTake t row at'=(zT,false)):=by show _=_;rw [edTake,if_neg (by rw [htk];simp)]
  clear htk
  go_wp2_with fail
  refine KO.out.mono ?_
  rintro e w1 ⟨rfl,hb1⟩
  replace HT4:=Hid.intro ((hb1.block _ (Array.getElem?_eq_some_iff.1 HT4.out).1).trans HT4.out)
  replace HK0:=Hid.intro (k_trans HK0.out hb1)
  obtain ⟨d0,d1,d2,d3,d4⟩:=fiveO HT4.out
  have fz:∀ p,w1.frozen? ⟨bz,p,none⟩=false:=fun p=>freeB HT4.out
  clear hb1 KO b0 b1 b2 b3 b4
  go_wp2
  exact bodyPost_ret (v:=.tuple #[.agg #[.slice none 0 0,.int .i64 0,.int .i64 0,.slice none 0 0,.int .i64 0],.bool false]) (by simp [results,Try.results22,go_sem,d0,d1,d2,d3,d4]) rfl ⟨none,0,none,0,0,0,by rw [HE.out];rfl,by rw [HE.out];exact ⟨[],rfl,⟨rfl,.inl ⟨rfl,rfl⟩⟩,⟨⟨rfl,.inl ⟨rfl,rfl⟩⟩,fun p hp=>absurd hp (by simp),.nil⟩⟩,k_set (k_set (k_set (k_set (k_set HK0.out hl4 _) hl4 _) hl4 _) hl4 _) hl4 _⟩
 | true =>
  rw [htk] at KO
  have HEd:Hid (edTake t row at'=if hasB t row at'=true then (setRow t row.toNat ((t.rows.getD row.toNat dR).cells.eraseIdx at'.toNat),true) else (t,false)):=by show _=_;rw [edTake,if_pos htk]
  have H5:=Hid.intro (cells_5 htk)
  have hb8:=(tbl_bounds htk).2.2.1
  have HCp:=Hid.intro (fun W (h:Below w.heap.size w W)=>specl2Copy ac ar cc cr t htk W (HCA.out.kept h) (HRA.out.kept h))
  clear htk
  go_wp2_with fail
  refine KO.out.mono ?_
  rintro e w1 ⟨rfl,hb1⟩
  replace HT0:=Hid.intro ((hb1.block _ (Array.getElem?_eq_some_iff.1 HT0.out).1).trans HT0.out)
  replace HT4:=Hid.intro ((hb1.block _ (Array.getElem?_eq_some_iff.1 HT4.out).1).trans HT4.out)
  replace HK0:=Hid.intro (k_trans HK0.out hb1)
  clear hb1 KO b0 b1 b2 b3 b4
  obtain ⟨b0,b1,b2,b3,b4⟩:=fiveO HT0.out
  have KC:=Hid.intro (HCp.out w1 HK0.out)
  have hsz1:bz < w1.heap.size:=(Array.getElem?_eq_some_iff.1 HT4.out).1
  go_wp2_with fail
  refine KC.out.mono ?_
  rintro e w2 ⟨a1,c1,a2,c2,rfl,⟨ur,hur,hOc,hOr⟩,hb2⟩
  replace HT0:=Hid.intro ((hb2.block _ (Array.getElem?_eq_some_iff.1 HT0.out).1).trans HT0.out)
  replace HT4:=Hid.intro ((hb2.block _ (Array.getElem?_eq_some_iff.1 HT4.out).1).trans HT4.out)
  replace HK0:=Hid.intro (k_trans HK0.out hb2)
  have Hur:=Hid.intro hur
  have HOD:=Hid.intro ((OwnD.of hOc hOr).kept (k_alloc (Below.refl _ _) (.cells #[.slice a1 t.cols.length c1,.int .i64 t.head,.int .i64 t.foot,.slice a2 t.rows.length c2,.int .i64 t.gap] 37)))
  replace HT0:=Hid.intro (alloc_at (o:=(.cells #[.slice a1 t.cols.length c1,.int .i64 t.head,.int .i64 t.foot,.slice a2 t.rows.length c2,.int .i64 t.gap] 37)) HT0.out)
  replace HT4:=Hid.intro (alloc_at (o:=(.cells #[.slice a1 t.cols.length c1,.int .i64 t.head,.int .i64 t.foot,.slice a2 t.rows.length c2,.int .i64 t.gap] 37)) HT4.out)
  replace HK0:=Hid.intro (k_alloc HK0.out (.cells #[.slice a1 t.cols.length c1,.int .i64 t.head,.int .i64 t.foot,.slice a2 t.rows.length c2,.int .i64 t.gap] 37))
  have HX:Hid ((w2.alloc (.cells #[.slice a1 t.cols.length c1,.int .i64 t.head,.int .i64 t.foot,.slice a2 t.rows.length c2,.int .i64 t.gap] 37)).heap[w2.heap.size]?=some (.cells #[.slice a1 t.cols.length c1,.int .i64 t.head,.int .i64 t.foot,.slice a2 t.rows.length c2,.int .i64 t.gap] 37)):=newestB _ _
  have hxW:w2.heap.size < (w2.alloc (.cells #[.slice a1 t.cols.length c1,.int .i64 t.head,.int .i64 t.foot,.slice a2 t.rows.length c2,.int .i64 t.gap] 37)).heap.size:=by simp
  have hbx:bz < w2.heap.size:=Nat.lt_of_lt_of_le hsz1 hb2.size
  clear hOc hOr hb2 hur KC HCp b0 b1 b2 b3 b4
  go_upto_region 4 with fail
  generalize w2.alloc (.cells #[.slice a1 t.cols.length c1,.int .i64 t.head,.int .i64 t.foot,.slice a2 t.rows.length c2,.int .i64 t.gap] 37)=W1 at HT0 HT4 HK0 HX HOD hxW ⊢
  generalize w2.heap.size=xb at HX HOD hxW hbx ⊢
  generalize w1.heap.size=bB at HOD hsz1
  obtain ⟨b0,b1,b2,b3,b4⟩:=fiveO HT0.out
  have hsz:=hsz1
  obtain ⟨_,_,_,hrlen⟩:=At.form HRA.out
  cases hin:inB row 0 ((t.rows.length:Int) - 1) with
  | false =>
   have KI:=Hid.intro (fun W=>l1In_any row 0 ((t.rows.length:Int) - 1) W)
   rw [hin] at KI
   have HE:Hid (edTake t row at'=(t,false)):=by
    show _=_
    have:hasB t row at'=false:=by unfold hasB cellsInV;rw [hin];exact inB_false (by simp;omega)
    rw [HEd.out,if_neg (by rw [this];simp)]
   clear hin HEd
   obtain ⟨x0,x1,x2,x3,x4⟩:=fiveO HX.out
   go_wp2_with fail
   refine (KI.out _).mono ?_
   rintro e w3 ⟨rfl,e3⟩
   subst e3
   obtain ⟨d0,d1,d2,d3,d4⟩:=fiveO HT4.out
   have fz:∀ p,w3.frozen? ⟨bz,p,none⟩=false:=fun p=>freeB HT4.out
   go_wp2
   exact bodyPost_ret (v:=.tuple #[.agg #[.slice a1 t.cols.length c1,.int .i64 t.head,.int .i64 t.foot,.slice a2 t.rows.length c2,.int .i64 t.gap],.bool false]) (by simp [results,Try.results22,go_sem,d0,d1,d2,d3,d4]) rfl ⟨a1,c1,a2,c2,_,_,by rw [HE.out],by rw [HE.out];exact OwnT.base (OwnT.since (own_lt HOD.out rfl Hur.out) (Since.set (Since.set (Since.set (Since.set (Since.set (Since.refl _ _) (p:=⟨bz,0,none⟩) hsz _) (p:=⟨bz,1,none⟩) hsz _) (p:=⟨bz,2,none⟩) hsz _) (p:=⟨bz,3,none⟩) hsz _) (p:=⟨bz,4,none⟩) hsz _)) (by omega),k_set (k_set (k_set (k_set (k_set HK0.out hl4 _) hl4 _) hl4 _) hl4 _) hl4 _⟩
  | true =>
   obtain ⟨r,rfl⟩:∃ r:Nat,row=r:=⟨row.toNat,by simp only [inB,decide_eq_true_eq] at hin;omega⟩
   have hrl:r < t.rows.length:=by simp only [inB,decide_eq_true_eq] at hin;omega
   have KI:=Hid.intro (fun W=>l1In_any (r:Int) 0 ((t.rows.length:Int) - 1) W)
   rw [hin] at KI
   obtain ⟨bq,oq,cr',e',hq1,hq2,hlq,u,hx0',hx1',hx'⟩:=At.get (HRA.out.kept HK0.out) hrl
   simp only [Value.slice.injEq,true_and] at e'
   obtain ⟨rfl,rfl⟩:=e'
   obtain ⟨au,cu,rfl,hul'⟩:=At.form hx'
   have HHb:Hid (hasB t (r:Int) at'=inB at' 0 (((t.rows.getD r dR).cells.length:Int) - 1)):=by
    show _=_
    unfold hasB cellsInV
    rw [if_pos hin,Int.toNat_natCast]
   have hm5:(t.rows.getD r dR).cells.length≤1048576:=H5.out _ (by rw [getD_get dR hrl];exact List.getElem_mem hrl)
   have KA:=Hid.intro (fun W=>l1In_any at' 0 (((t.rows.getD r dR).cells.length:Int) - 1) W)
   rw [← HHb.out] at KA
   have HCl:=Hid.intro hx'
   generalize hmE:(t.rows.getD r dR).cells.length=m at KA hx0' hm5
   have HmE:=Hid.intro hmE
   have HQ0:=Hid.intro hx0'
   clear hmE HHb hin hx1' hx' hul'
   unfold maxLen at hq2 hrlen
   go_wp2_with fail
   refine (KI.out _).mono ?_
   rintro e w3 ⟨rfl,e3⟩
   subst e3
   clear KI
   go_wp2_with fail
   refine (KA.out _).mono ?_
   rintro e w4 ⟨rfl,e4⟩
   subst e4
   clear KA b0 b1 b2 b3 b4 hx0'
   cases hh:hasB t (r:Int) at' with
   | false =>
    have HE:Hid (edTake t (r:Int) at'=(t,false)):=by show _=_;rw [HEd.out,if_neg (by rw [hh];simp)]
    clear hh HEd
    obtain ⟨x0,x1,x2,x3,x4⟩:=fiveO HX.out
    obtain ⟨d0,d1,d2,d3,d4⟩:=fiveO HT4.out
    have fz:∀ p,w4.frozen? ⟨bz,p,none⟩=false:=fun p=>freeB HT4.out
    go_wp2
    exact bodyPost_ret (v:=.tuple #[.agg #[.slice a1 t.cols.length c1,.int .i64 t.head,.int .i64 t.foot,.slice a2 t.rows.length c2,.int .i64 t.gap],.bool false]) (by simp [results,Try.results22,go_sem,d0,d1,d2,d3,d4]) rfl ⟨a1,c1,a2,c2,_,_,by rw [HE.out],by rw [HE.out];exact OwnT.base (OwnT.since (own_lt HOD.out rfl Hur.out) (Since.set (Since.set (Since.set (Since.set (Since.set (Since.refl _ _) (p:=⟨bz,0,none⟩) hsz _) (p:=⟨bz,1,none⟩) hsz _) (p:=⟨bz,2,none⟩) hsz _) (p:=⟨bz,3,none⟩) hsz _) (p:=⟨bz,4,none⟩) hsz _)) (by omega),k_set (k_set (k_set (k_set (k_set HK0.out hl4 _) hl4 _) hl4 _) hl4 _) hl4 _⟩
   | true =>
    have Hh:=Hid.intro hh
    clear hh
    have HE:Hid (edTake t (r:Int) at'=(setRow t (r:Int).toNat ((t.rows.getD (r:Int).toNat dR).cells.eraseIdx at'.toNat),true)):=by show _=_;rw [HEd.out,if_pos Hh.out]
    clear HEd
    obtain ⟨r',a,er,rfl,hrl',hal⟩:=hasB_iff.1 Hh.out
    obtain rfl:r=r':=by omega
    rw [Int.toNat_natCast,Int.toNat_natCast] at HE
    have hur:=Hur.out
    have hul:ur.length=t.rows.length:=by rw [← hur,List.length_map]
    have hge:ur[r]?=some (ur[r]'(by omega)):=List.getElem?_eq_getElem (by omega)
    have hpr:(ur[r]'(by omega)).2=t.rows.getD r dR:=by rw [← map_snd_get hge,hur]
    generalize hpE:ur[r]'(by omega)=p at hge hpr
    clear hpE
    rw [← hpr] at hal HE HCl HmE
    obtain ⟨g,cg,arr,ev,hg1,hg2,hgl,hgB,harr,hasz,ha0,ha1⟩:=own_get HOD.out.2.1 hge
    rw [hul] at ev hg1
    simp only [Value.slice.injEq,true_and] at ev
    obtain ⟨rfl,rfl⟩:=ev
    have hmE:=HmE.out
    have hgz:g ≠ bz:=fun e=>by subst e;rw [HT4.out] at harr;simp at harr
    have hgx:g ≠ xb:=fun e=>by subst e;rw [HX.out] at harr;simp at harr
    have hgw:w.heap.size≤g:=by
     have:=(row_lt HOD.out.2.1.own (b:=g) rfl).1
     omega
    have hglw:g < w4.heap.size:=(Array.getElem?_eq_some_iff.1 harr).1
    have hxl:xb < w4.heap.size:=(Array.getElem?_eq_some_iff.1 HX.out).1
    have hBl:bB≤w4.heap.size:=by have:=hgB;omega
    have HOF:Hid (∀ W9 u,Below w4.heap.size w4 W9→OwnC W9 w4.heap.size u (p.2.cells.eraseIdx a)→OwnT (W9.setCell ⟨g,r * 2,none⟩ u) bB (.slice a1 t.cols.length c1) (.slice (some ⟨g,0,none⟩) t.rows.length c2) (setRow t r (p.2.cells.eraseIdx a))):=fun W9 u hk hc=>by
     have h9:=own_fresh HOD.out (cg:=c2) (by rw [hul]) hge hk hBl hc
     exact ⟨ur.set r (u,⟨p.2.cells.eraseIdx a,p.2.whole⟩),by rw [map_set_snd,hur,setRow,hpr],h9.1,by rw [← hul] at *;exact h9.2⟩
    obtain ⟨bh,oh,cu',eh,hh1,hh2,hhl,hhx⟩:=At.get HCl.out hal
    simp only [Value.slice.injEq,true_and] at eh
    obtain ⟨rfl,rfl⟩:=eh
    clear hhx
    rw [hmE] at hh1
    have HNa:=Hid.intro (fun W (hW:Below w4.heap.size w4 W)=>news_cells (HCl.out.kept hW) _ rfl)
    have hm5':m≤1048576:=hm5
    obtain ⟨A,hA,hnews⟩:∃ A:Addr,(if cu=a+1 then some (⟨bh,oh,none⟩:Addr) else some ⟨bh,oh+(a+1) * 11,none⟩)=some A∧∀ W,Below w4.heap.size w4 W→∀ j u,((p.2.cells.drop (a+1)).flatMap cellVs)[j]?=some u→W.cell? (A.add j)=some u:=by
     by_cases hca:cu=a+1
     ·refine ⟨⟨bh,oh,none⟩,by rw [if_pos hca],fun W _ j u hu=>?_⟩
      have:p.2.cells.drop (a+1)=[]:=List.drop_eq_nil_of_le (by omega)
      rw [this] at hu
      simp at hu
     ·refine ⟨⟨bh,oh+(a+1) * 11,none⟩,by rw [if_neg hca],fun W hW j u hu=>?_⟩
      have hcut:p.2.cells.flatMap cellVs=(p.2.cells.take (a+1)).flatMap cellVs ++ (p.2.cells.drop (a+1)).flatMap cellVs:=by rw [← List.flatMap_append,List.take_append_drop]
      have hl0:((p.2.cells.take (a+1)).flatMap cellVs).length=(a+1) * 11:=by rw [flat_len cellVs 11 (fun _=>rfl),List.length_take,Nat.min_eq_left (by omega)]
      have h9:=HNa.out W hW ((a+1) * 11+j) u (by rw [hcut,List.getElem?_append_right (by rw [hl0];omega),hl0,Nat.add_sub_cancel_left];exact hu)
      have e9:(Addr.add ⟨bh,oh,none⟩ ((a+1) * 11+j))=Addr.add ⟨bh,oh+(a+1) * 11,none⟩ j:=by
       simp only [Addr.add,Nat.add_assoc]
       rw [if_neg (by omega)]
       by_cases hj:j=0
       ·rw [if_pos hj,hj];rfl
       ·rw [if_neg hj]
      rw [← e9]
      exact h9
    have HAd:=Hid.intro hA
    have HNd:=Hid.intro hnews
    have HNt:Hid (∀ W,Below w4.heap.size w4 W→∀ j u,((p.2.cells.take a).flatMap cellVs)[j]?=some u→W.cell? (Addr.add ⟨bh,oh,none⟩ j)=some u):=fun W hW j u hu=>by
     have hcut:p.2.cells.flatMap cellVs=(p.2.cells.take a).flatMap cellVs ++ (p.2.cells.drop a).flatMap cellVs:=by rw [← List.flatMap_append,List.take_append_drop]
     exact HNa.out W hW j u (by rw [hcut,List.getElem?_append_left (List.getElem?_eq_some_iff.1 hu).1];exact hu)
    have HLt:Hid (((p.2.cells.take a).flatMap cellVs).length=a * 11):=by show _=_;rw [flat_len cellVs 11 (fun _=>rfl),List.length_take,Nat.min_eq_left (by omega)]
    have HLd:Hid (((p.2.cells.drop (a+1)).flatMap cellVs).length=(m - (a+1)) * 11):=by show _=_;rw [flat_len cellVs 11 (fun _=>rfl),List.length_drop,hmE]
    have HEr:Hid (∀ {w':World} {B:Nat} {v:Value},w'.ownsRow B 41 11 v (a+(m - (a+1))) ((p.2.cells.take a).flatMap cellVs ++ (p.2.cells.drop (a+1)).flatMap cellVs)→OwnC w' B v (p.2.cells.eraseIdx a)):=fun {w' B v} ho=>by
     have hl:(p.2.cells.eraseIdx a).length=a+(m - (a+1)):=by rw [List.length_eraseIdx_of_lt (by omega)];omega
     unfold OwnC
     rw [hl,List.eraseIdx_eq_take_drop_succ,List.flatMap_append]
     exact ho
    obtain ⟨i3,hi3,hw0,hw1,hw2⟩:=info_parts infoCelln
    have hmx:Try.prog.follows .mixedOrders=true:=by kernel_rfl
    have HWr:Hid (IntKind.i64.wrap ((a:Int)+1)=(a:Int)+1):=by unfold Hid;rw [IntKind.wrap_i64];omega
    have ham:a < m:=by omega
    have hac:a+1≤cu:=by omega
    have hac0:a≤cu:=by omega
    have han:a+1≤m:=by omega
    have hanI:(a:Int)+1≤(m:Int):=by omega
    have HG:=Hid.intro harr
    have hrs:r * 2 < arr.size:=by rw [hasz];omega
    unfold maxLen at hh2 hg2
    obtain ⟨b0,b1,b2,b3,b4⟩:=fiveO HT0.out
    have hq0:=HQ0.out
    clear hnews hA HNa HCl hal hmE HmE hm5 harr ha0 ha1 hasz hge hpr hur hul HOD
    generalize p.2.cells=cs at HOF HNd HNt HLt HLd HEr HE
    go_upto_region 7 with fail
    clear b0 b1 b2 b3 b4 hq0
    refine wp_region_inv2 (fun L act W=>∃ v43 v44 v45 v46 v47 v48 v49 v50 v51 v52 v53 v54 v55 v56 v57:Value,act=⟨#[.agg #[.slice ac t.cols.length cc,.int .i64 t.head,.int .i64 t.foot,.slice (some ⟨bq,oq,none⟩) t.rows.length cr,.int .i64 t.gap],.int .i64 r,.int .i64 a,.pointer (some ⟨w.heap.size,0,none⟩),undef,undef,.pointer (some ⟨bz,0,none⟩),.bool false,.pointer (some ⟨xb,0,none⟩),.slice (some ⟨bh,oh,none⟩) m cu,.agg #[.slice ac t.cols.length cc,.int .i64 t.head,.int .i64 t.foot,.slice (some ⟨bq,oq,none⟩) t.rows.length cr,.int .i64 t.gap],.bool true,.bool false,undef,.agg #[.slice ac t.cols.length cc,.int .i64 t.head,.int .i64 t.foot,.slice (some ⟨bq,oq,none⟩) t.rows.length cr,.int .i64 t.gap],.agg #[.slice a1 t.cols.length c1,.int .i64 t.head,.int .i64 t.foot,.slice (some ⟨g,0,none⟩) t.rows.length c2,.int .i64 t.gap],.int .i64 r,.pointer (some ⟨w.heap.size,3,none⟩),.slice (some ⟨bq,oq,none⟩) t.rows.length cr,.int .i64 t.rows.length,.int .i64 ((t.rows.length:Int) - 1),.bool true,.bool false,.bool false,.int .i64 a,.pointer (some ⟨w.heap.size,3,none⟩),.slice (some ⟨bq,oq,none⟩) t.rows.length cr,.int .i64 r,.pointer (some ⟨bq,oq+r * 2,none⟩),.pointer (some ⟨bq,oq+r * 2,none⟩),.slice (some ⟨bh,oh,none⟩) m cu,.int .i64 m,.int .i64 ((m:Int) - 1),.bool true,.bool false,.bool false,undef,.pointer (some ⟨w.heap.size,3,none⟩),.slice (some ⟨bq,oq,none⟩) t.rows.length cr,.int .i64 r,.pointer (some ⟨bq,oq+r * 2,none⟩),.pointer (some ⟨bq,oq+r * 2,none⟩),.slice (some ⟨bh,oh,none⟩) m cu,v43,v44,v45,v46,v47,v48,v49,v50,v51,v52,v53,v54,v55,v56,v57,undef],[]⟩∧TsJ xb g r a t.rows.length c2 m cu bh oh A cs w4 L W v43 v44 v45 v46 v47 v48 v49 v50 v51 v52 v53 v54 v55 v56 v57) hmx (by kernel_rfl) ?hs ?hd ?h0
    case h0=>exact ⟨_,_,_,_,_,_,_,_,_,_,_,_,_,_,_,rfl,⟨(fun h=>by cases h),(fun h=>by cases h),(fun h=>by cases h),(fun h=>by cases h),(fun h=>by cases h),(fun h=>by cases h),(fun h=>by cases h),(fun h=>by cases h),(fun h=>by cases h),(fun h=>by cases h),(fun h=>by cases h),(fun h=>by cases h),(fun h=>by cases h),(fun h=>by cases h),(fun h=>by cases h),(fun h=>by cases h),(fun _=>k_drew (Below.refl _ _))⟩⟩
    case hd =>
     intro L act W hJ hall
     obtain ⟨v43,v44,v45,v46,v47,v48,v49,v50,v51,v52,v53,v54,v55,v56,v57,ha,J⟩:=hJ
     subst ha
     obtain ⟨a9,c9,W9,hB9,hC9,hW9⟩:=J.f15 (hall 15 (by decide))
     clear J hall
     have HOw:=Hid.intro (HOF.out W9 _ hB9 hC9)
     have HK4:=Hid.intro ((k_trans HK0.out hB9).setCell (p:=⟨g,r * 2,none⟩) hgw (.slice a9 (a+(m - (a+1))) c9))
     have HZ4:=Hid.intro ((Below.heap_setCell W9 ⟨g,r * 2,none⟩ (.slice a9 (a+(m - (a+1))) c9) bz (by dsimp only;exact fun e=>hgz e.symm)).trans ((hB9.block bz (Array.getElem?_eq_some_iff.1 HT4.out).1).trans HT4.out))
     have HX4:=Hid.intro ((Below.heap_setCell W9 ⟨g,r * 2,none⟩ (.slice a9 (a+(m - (a+1))) c9) xb (by dsimp only;exact fun e=>hgx e.symm)).trans ((hB9.block xb hxl).trans HX.out))
     rw [← hW9] at HOw HK4 HZ4 HX4
     clear hB9 hC9 hW9
     obtain ⟨x0,x1,x2,x3,x4⟩:=fiveO HX4.out
     obtain ⟨d0,d1,d2,d3,d4⟩:=fiveO HZ4.out
     have fz:∀ p,W.frozen? ⟨bz,p,none⟩=false:=fun p=>freeB HZ4.out
     go_wp2
     exact bodyPost_ret (v:=.tuple #[.agg #[.slice a1 t.cols.length c1,.int .i64 t.head,.int .i64 t.foot,.slice (some ⟨g,0,none⟩) t.rows.length c2,.int .i64 t.gap],.bool true]) (by simp [results,Try.results22,go_sem,d0,d1,d2,d3,d4]) rfl ⟨a1,c1,some ⟨g,0,none⟩,c2,_,_,by rw [HE.out];rfl,by rw [HE.out];exact OwnT.base (OwnT.since HOw.out (Since.set (Since.set (Since.set (Since.set (Since.set (Since.refl _ _) (p:=⟨bz,0,none⟩) hsz _) (p:=⟨bz,1,none⟩) hsz _) (p:=⟨bz,2,none⟩) hsz _) (p:=⟨bz,3,none⟩) hsz _) (p:=⟨bz,4,none⟩) hsz _)) (by omega),k_set (k_set (k_set (k_set (k_set HK4.out hl4 _) hl4 _) hl4 _) hl4 _) hl4 _⟩
    case hs =>
     intro L act W i o hJ hcl ho hLi haft K hK
     obtain ⟨v43,v44,v45,v46,v47,v48,v49,v50,v51,v52,v53,v54,v55,v56,v57,ha,J⟩:=hJ
     subst ha
     have hi':i < 16:=by
      have:=(Array.getElem?_eq_some_iff.1 ho).1
      simpa using this
     rcases (by omega:i=0∨i=1∨i=2∨i=3∨i=4∨i=5∨i=6∨i=7∨i=8∨i=9∨i=10∨i=11∨i=12∨i=13∨i=14∨i=15) with rfl | rfl | rfl | rfl | rfl | rfl | rfl | rfl | rfl | rfl | rfl | rfl | rfl | rfl | rfl | rfl
     all_goals
      simp only [List.getElem?_toArray,List.getElem?_cons_zero,List.getElem?_cons_succ,Option.some.injEq] at ho
      subst ho
      clear hi'
     ·skip
      have hN:=(hcl 15 14 (by kernel_rfl) (hcl 14 13 (by kernel_rfl) (hcl 13 1 (by kernel_rfl) (hcl 1 0 (by kernel_rfl) hLi))))
      have hB:=J.b hN
      go_simp
      exact hK _ _ ⟨_,_,_,_,_,_,_,_,_,_,_,_,_,_,_,rfl,⟨(fun _=>rfl),(fun h=>absurd (((hcl 1 0 (by kernel_rfl) hLi)).symm.trans (un h)) (by simp)),(fun h=>J.f2 (un h)),(fun h h2=>(J.f3 (un h) (un h2))),(fun h=>J.f4 (un h)),(fun h=>J.f5 (un h)),(fun h=>J.f6 (un h)),(fun h h2=>(J.f7 (un h) (un h2))),(fun h=>J.f8 (un h)),(fun h=>J.f9 (un h)),(fun h=>J.f10 (un h)),(fun h=>J.f11 (un h)),(fun h h2=>(J.f12 (un h) (un h2))),(fun h=>absurd (((hcl 13 1 (by kernel_rfl) (hcl 1 0 (by kernel_rfl) hLi))).symm.trans (un h)) (by simp)),(fun h=>absurd (((hcl 14 13 (by kernel_rfl) (hcl 13 1 (by kernel_rfl) (hcl 1 0 (by kernel_rfl) hLi)))).symm.trans (un h)) (by simp)),(fun h=>absurd (((hcl 15 14 (by kernel_rfl) (hcl 14 13 (by kernel_rfl) (hcl 13 1 (by kernel_rfl) (hcl 1 0 (by kernel_rfl) hLi))))).symm.trans (un h)) (by simp)),(fun _=>hB)⟩⟩
     ·skip
      have hN:=(hcl 15 14 (by kernel_rfl) (hcl 14 13 (by kernel_rfl) (hcl 13 1 (by kernel_rfl) hLi)))
      have hB:=J.b hN
      obtain rfl:=J.f0 (haft ⟨0,.data⟩ (by simp) rfl)
      obtain ⟨q0,q1,q2,q3,q4⟩:=fiveO ((hB.block _ hxl).trans HX.out)
      have hl:=Nat.lt_of_lt_of_le hxl hB.size
      go_simp
      exact hK _ _ ⟨_,_,_,_,_,_,_,_,_,_,_,_,_,_,_,rfl,⟨(fun h=>J.f0 (un h)),(fun _=>rfl),(fun h=>J.f2 (un h)),(fun h h2=>(J.f3 (un h) (un h2))),(fun h=>J.f4 (un h)),(fun h=>J.f5 (un h)),(fun h=>J.f6 (un h)),(fun h h2=>(J.f7 (un h) (un h2))),(fun h=>J.f8 (un h)),(fun h=>J.f9 (un h)),(fun h=>J.f10 (un h)),(fun h=>J.f11 (un h)),(fun h h2=>(J.f12 (un h) (un h2))),(fun h=>absurd (((hcl 13 1 (by kernel_rfl) hLi)).symm.trans (un h)) (by simp)),(fun h=>absurd (((hcl 14 13 (by kernel_rfl) (hcl 13 1 (by kernel_rfl) hLi))).symm.trans (un h)) (by simp)),(fun h=>absurd (((hcl 15 14 (by kernel_rfl) (hcl 14 13 (by kernel_rfl) (hcl 13 1 (by kernel_rfl) hLi)))).symm.trans (un h)) (by simp)),(fun _=>hB)⟩⟩
     ·skip
      have hN:=(hcl 15 14 (by kernel_rfl) (hcl 14 13 (by kernel_rfl) (hcl 13 2 (by kernel_rfl) hLi)))
      have hB:=J.b hN
      go_simp
      exact hK _ _ ⟨_,_,_,_,_,_,_,_,_,_,_,_,_,_,_,rfl,⟨(fun h=>J.f0 (un h)),(fun h=>J.f1 (un h)),(fun _=>rfl),(fun h h2=>(J.f3 (un h) (un h2))),(fun h=>J.f4 (un h)),(fun h=>J.f5 (un h)),(fun h=>J.f6 (un h)),(fun h h2=>(J.f7 (un h) (un h2))),(fun h=>J.f8 (un h)),(fun h=>J.f9 (un h)),(fun h=>J.f10 (un h)),(fun h=>J.f11 (un h)),(fun h h2=>(J.f12 (un h) (un h2))),(fun h=>absurd (((hcl 13 2 (by kernel_rfl) hLi)).symm.trans (un h)) (by simp)),(fun h=>absurd (((hcl 14 13 (by kernel_rfl) (hcl 13 2 (by kernel_rfl) hLi))).symm.trans (un h)) (by simp)),(fun h=>absurd (((hcl 15 14 (by kernel_rfl) (hcl 14 13 (by kernel_rfl) (hcl 13 2 (by kernel_rfl) hLi)))).symm.trans (un h)) (by simp)),(fun _=>hB)⟩⟩
     ·skip
      have hN:=(hcl 15 12 (by kernel_rfl) (hcl 12 7 (by kernel_rfl) (hcl 7 3 (by kernel_rfl) hLi)))
      have hB:=J.b hN
      go_simp
      exact hK _ _ ⟨_,_,_,_,_,_,_,_,_,_,_,_,_,_,_,rfl,⟨(fun h=>J.f0 (un h)),(fun h=>J.f1 (un h)),(fun h=>J.f2 (un h)),(fun _ _=>World.ownsRow_made W #[] 0 hB.size (Nat.zero_le _) (by simp)),(fun h=>J.f4 (un h)),(fun h=>J.f5 (un h)),(fun h=>J.f6 (un h)),(fun h _=>absurd (((hcl 7 3 (by kernel_rfl) hLi)).symm.trans (un h)) (by simp)),(fun h=>J.f8 (un h)),(fun h=>J.f9 (un h)),(fun h=>J.f10 (un h)),(fun h=>J.f11 (un h)),(fun h _=>absurd (((hcl 12 7 (by kernel_rfl) (hcl 7 3 (by kernel_rfl) hLi))).symm.trans (un h)) (by simp)),(fun h=>J.f13 (un h)),(fun h=>J.f14 (un h)),(fun h=>absurd (((hcl 15 12 (by kernel_rfl) (hcl 12 7 (by kernel_rfl) (hcl 7 3 (by kernel_rfl) hLi)))).symm.trans (un h)) (by simp)),(fun _=>k_alloc hB _)⟩⟩
     ·skip
      have hN:=(hcl 15 12 (by kernel_rfl) (hcl 12 7 (by kernel_rfl) (hcl 7 6 (by kernel_rfl) (hcl 6 4 (by kernel_rfl) hLi))))
      have hB:=J.b hN
      go_simp
      exact hK _ _ ⟨_,_,_,_,_,_,_,_,_,_,_,_,_,_,_,rfl,⟨(fun h=>J.f0 (un h)),(fun h=>J.f1 (un h)),(fun h=>J.f2 (un h)),(fun h h2=>(J.f3 (un h) (un h2))),(fun _=>rfl),(fun h=>J.f5 (un h)),(fun h=>absurd (((hcl 6 4 (by kernel_rfl) hLi)).symm.trans (un h)) (by simp)),(fun h _=>absurd (((hcl 7 6 (by kernel_rfl) (hcl 6 4 (by kernel_rfl) hLi))).symm.trans (un h)) (by simp)),(fun h=>J.f8 (un h)),(fun h=>J.f9 (un h)),(fun h=>J.f10 (un h)),(fun h=>J.f11 (un h)),(fun h _=>absurd (((hcl 12 7 (by kernel_rfl) (hcl 7 6 (by kernel_rfl) (hcl 6 4 (by kernel_rfl) hLi)))).symm.trans (un h)) (by simp)),(fun h=>J.f13 (un h)),(fun h=>J.f14 (un h)),(fun h=>absurd (((hcl 15 12 (by kernel_rfl) (hcl 12 7 (by kernel_rfl) (hcl 7 6 (by kernel_rfl) (hcl 6 4 (by kernel_rfl) hLi))))).symm.trans (un h)) (by simp)),(fun _=>hB)⟩⟩
     ·skip
      have hN:=(hcl 15 12 (by kernel_rfl) (hcl 12 7 (by kernel_rfl) (hcl 7 6 (by kernel_rfl) (hcl 6 5 (by kernel_rfl) hLi))))
      have hB:=J.b hN
      go_simp
      exact hK _ _ ⟨_,_,_,_,_,_,_,_,_,_,_,_,_,_,_,rfl,⟨(fun h=>J.f0 (un h)),(fun h=>J.f1 (un h)),(fun h=>J.f2 (un h)),(fun h h2=>(J.f3 (un h) (un h2))),(fun h=>J.f4 (un h)),(fun _=>rfl),(fun h=>absurd (((hcl 6 5 (by kernel_rfl) hLi)).symm.trans (un h)) (by simp)),(fun h _=>absurd (((hcl 7 6 (by kernel_rfl) (hcl 6 5 (by kernel_rfl) hLi))).symm.trans (un h)) (by simp)),(fun h=>J.f8 (un h)),(fun h=>J.f9 (un h)),(fun h=>J.f10 (un h)),(fun h=>J.f11 (un h)),(fun h _=>absurd (((hcl 12 7 (by kernel_rfl) (hcl 7 6 (by kernel_rfl) (hcl 6 5 (by kernel_rfl) hLi)))).symm.trans (un h)) (by simp)),(fun h=>J.f13 (un h)),(fun h=>J.f14 (un h)),(fun h=>absurd (((hcl 15 12 (by kernel_rfl) (hcl 12 7 (by kernel_rfl) (hcl 7 6 (by kernel_rfl) (hcl 6 5 (by kernel_rfl) hLi))))).symm.trans (un h)) (by simp)),(fun _=>hB)⟩⟩
     ·skip
      have hN:=(hcl 15 12 (by kernel_rfl) (hcl 12 7 (by kernel_rfl) (hcl 7 6 (by kernel_rfl) hLi)))
      have hB:=J.b hN
      obtain rfl:=J.f4 (haft ⟨4,.data⟩ (by simp) rfl)
      obtain rfl:=J.f5 (haft ⟨5,.data⟩ (by simp) rfl)
      go_simp
      exact hK _ _ ⟨_,_,_,_,_,_,_,_,_,_,_,_,_,_,_,rfl,⟨(fun h=>J.f0 (un h)),(fun h=>J.f1 (un h)),(fun h=>J.f2 (un h)),(fun h h2=>(J.f3 (un h) (un h2))),(fun h=>J.f4 (un h)),(fun h=>J.f5 (un h)),(fun _=>rfl),(fun h _=>absurd (((hcl 7 6 (by kernel_rfl) hLi)).symm.trans (un h)) (by simp)),(fun h=>J.f8 (un h)),(fun h=>J.f9 (un h)),(fun h=>J.f10 (un h)),(fun h=>J.f11 (un h)),(fun h _=>absurd (((hcl 12 7 (by kernel_rfl) (hcl 7 6 (by kernel_rfl) hLi))).symm.trans (un h)) (by simp)),(fun h=>J.f13 (un h)),(fun h=>J.f14 (un h)),(fun h=>absurd (((hcl 15 12 (by kernel_rfl) (hcl 12 7 (by kernel_rfl) (hcl 7 6 (by kernel_rfl) hLi)))).symm.trans (un h)) (by simp)),(fun _=>hB)⟩⟩
     ·skip
      have hN:=(hcl 15 12 (by kernel_rfl) (hcl 12 7 (by kernel_rfl) hLi))
      have hB:=J.b hN
      have hO:=J.f3 (haft ⟨3,.data⟩ (by simp) rfl) hLi
      obtain rfl:=J.f6 (haft ⟨6,.data⟩ (by simp) rfl)
      rw [if_pos (by rfl)]
      refine wp_append_src _ (.tmp 46) (.tmp 49) 50 rfl w4.heap.size 41 i3 _ 11 96 Try.underlying50 hi3 hw0 hw1 hw2 rfl (by decide) _ _ _ rfl hO (some ⟨bh,oh,none⟩) a cu ((cs.take a).flatMap cellVs) rfl (fun _=>by simp) HLt.out (fun q hq=>by simp only [Option.some.injEq] at hq;subst hq;exact HNt.out W hB) (one_cells _) (by unfold maxLen;omega) (by omega) hB.size ?_
      intro v' w5 hown' hgrow'
      rw [Nat.zero_add,List.nil_append] at hown'
      exact hK _ _ ⟨_,_,_,_,_,_,_,_,_,_,_,_,_,_,_,rfl,⟨(fun h=>J.f0 (un h)),(fun h=>J.f1 (un h)),(fun h=>J.f2 (un h)),(fun _ h=>absurd (h.symm.trans upd_self) (by simp)),(fun h=>J.f4 (un h)),(fun h=>J.f5 (un h)),(fun h=>J.f6 (un h)),(fun _ _=>hown'),(fun h=>J.f8 (un h)),(fun h=>J.f9 (un h)),(fun h=>J.f10 (un h)),(fun h=>J.f11 (un h)),(fun h _=>absurd (((hcl 12 7 (by kernel_rfl) hLi)).symm.trans (un h)) (by simp)),(fun h=>J.f13 (un h)),(fun h=>J.f14 (un h)),(fun h=>absurd (((hcl 15 12 (by kernel_rfl) (hcl 12 7 (by kernel_rfl) hLi))).symm.trans (un h)) (by simp)),(fun _=>hB.grown hgrow' hB.size (fun q hq=>(hO.lt q hq).1))⟩⟩
     ·skip
      have hN:=(hcl 15 12 (by kernel_rfl) (hcl 12 11 (by kernel_rfl) (hcl 11 8 (by kernel_rfl) hLi)))
      have hB:=J.b hN
      go_simp
      exact hK _ _ ⟨_,_,_,_,_,_,_,_,_,_,_,_,_,_,_,rfl,⟨(fun h=>J.f0 (un h)),(fun h=>J.f1 (un h)),(fun h=>J.f2 (un h)),(fun h h2=>(J.f3 (un h) (un h2))),(fun h=>J.f4 (un h)),(fun h=>J.f5 (un h)),(fun h=>J.f6 (un h)),(fun h h2=>(J.f7 (un h) (un h2))),(fun _=>rfl),(fun h=>J.f9 (un h)),(fun h=>J.f10 (un h)),(fun h=>absurd (((hcl 11 8 (by kernel_rfl) hLi)).symm.trans (un h)) (by simp)),(fun h _=>absurd (((hcl 12 11 (by kernel_rfl) (hcl 11 8 (by kernel_rfl) hLi))).symm.trans (un h)) (by simp)),(fun h=>J.f13 (un h)),(fun h=>J.f14 (un h)),(fun h=>absurd (((hcl 15 12 (by kernel_rfl) (hcl 12 11 (by kernel_rfl) (hcl 11 8 (by kernel_rfl) hLi)))).symm.trans (un h)) (by simp)),(fun _=>hB)⟩⟩
     ·skip
      have hN:=(hcl 15 12 (by kernel_rfl) (hcl 12 11 (by kernel_rfl) (hcl 11 10 (by kernel_rfl) (hcl 10 9 (by kernel_rfl) hLi))))
      have hB:=J.b hN
      go_simp
      exact hK _ _ ⟨_,_,_,_,_,_,_,_,_,_,_,_,_,_,_,rfl,⟨(fun h=>J.f0 (un h)),(fun h=>J.f1 (un h)),(fun h=>J.f2 (un h)),(fun h h2=>(J.f3 (un h) (un h2))),(fun h=>J.f4 (un h)),(fun h=>J.f5 (un h)),(fun h=>J.f6 (un h)),(fun h h2=>(J.f7 (un h) (un h2))),(fun h=>J.f8 (un h)),(fun _=>rfl),(fun h=>absurd (((hcl 10 9 (by kernel_rfl) hLi)).symm.trans (un h)) (by simp)),(fun h=>absurd (((hcl 11 10 (by kernel_rfl) (hcl 10 9 (by kernel_rfl) hLi))).symm.trans (un h)) (by simp)),(fun h _=>absurd (((hcl 12 11 (by kernel_rfl) (hcl 11 10 (by kernel_rfl) (hcl 10 9 (by kernel_rfl) hLi)))).symm.trans (un h)) (by simp)),(fun h=>J.f13 (un h)),(fun h=>J.f14 (un h)),(fun h=>absurd (((hcl 15 12 (by kernel_rfl) (hcl 12 11 (by kernel_rfl) (hcl 11 10 (by kernel_rfl) (hcl 10 9 (by kernel_rfl) hLi))))).symm.trans (un h)) (by simp)),(fun _=>hB)⟩⟩
     ·skip
      have hN:=(hcl 15 12 (by kernel_rfl) (hcl 12 11 (by kernel_rfl) (hcl 11 10 (by kernel_rfl) hLi)))
      have hB:=J.b hN
      obtain rfl:=J.f9 (haft ⟨9,.data⟩ (by simp) rfl)
      go_simp
      exact hK _ _ ⟨_,_,_,_,_,_,_,_,_,_,_,_,_,_,_,rfl,⟨(fun h=>J.f0 (un h)),(fun h=>J.f1 (un h)),(fun h=>J.f2 (un h)),(fun h h2=>(J.f3 (un h) (un h2))),(fun h=>J.f4 (un h)),(fun h=>J.f5 (un h)),(fun h=>J.f6 (un h)),(fun h h2=>(J.f7 (un h) (un h2))),(fun h=>J.f8 (un h)),(fun h=>J.f9 (un h)),(fun _=>by first | rfl | rw [HWr.out]),(fun h=>absurd (((hcl 11 10 (by kernel_rfl) hLi)).symm.trans (un h)) (by simp)),(fun h _=>absurd (((hcl 12 11 (by kernel_rfl) (hcl 11 10 (by kernel_rfl) hLi))).symm.trans (un h)) (by simp)),(fun h=>J.f13 (un h)),(fun h=>J.f14 (un h)),(fun h=>absurd (((hcl 15 12 (by kernel_rfl) (hcl 12 11 (by kernel_rfl) (hcl 11 10 (by kernel_rfl) hLi)))).symm.trans (un h)) (by simp)),(fun _=>hB)⟩⟩
     ·skip
      have hN:=(hcl 15 12 (by kernel_rfl) (hcl 12 11 (by kernel_rfl) hLi))
      have hB:=J.b hN
      obtain rfl:=J.f8 (haft ⟨8,.data⟩ (by simp) rfl)
      obtain rfl:=J.f10 (haft ⟨10,.data⟩ (by simp) rfl)
      go_simp
      exact hK _ _ ⟨_,_,_,_,_,_,_,_,_,_,_,_,_,_,_,rfl,⟨(fun h=>J.f0 (un h)),(fun h=>J.f1 (un h)),(fun h=>J.f2 (un h)),(fun h h2=>(J.f3 (un h) (un h2))),(fun h=>J.f4 (un h)),(fun h=>J.f5 (un h)),(fun h=>J.f6 (un h)),(fun h h2=>(J.f7 (un h) (un h2))),(fun h=>J.f8 (un h)),(fun h=>J.f9 (un h)),(fun h=>J.f10 (un h)),(fun _=>by first | rfl | rw [HAd.out]),(fun h _=>absurd (((hcl 12 11 (by kernel_rfl) hLi)).symm.trans (un h)) (by simp)),(fun h=>J.f13 (un h)),(fun h=>J.f14 (un h)),(fun h=>absurd (((hcl 15 12 (by kernel_rfl) (hcl 12 11 (by kernel_rfl) hLi))).symm.trans (un h)) (by simp)),(fun _=>hB)⟩⟩
     ·skip
      have hN:=(hcl 15 12 (by kernel_rfl) hLi)
      have hB:=J.b hN
      have h7:L 7=true:=(haft ⟨7,.data⟩ (by simp) rfl)
      have hO:=J.f7 h7 hLi
      obtain rfl:=J.f11 (haft ⟨11,.data⟩ (by simp) rfl)
      rw [if_pos (by rfl)]
      refine wp_append_src _ (.tmp 50) (.tmp 54) 50 rfl w4.heap.size 41 i3 _ 11 96 Try.underlying50 hi3 hw0 hw1 hw2 rfl (by decide) _ _ _ rfl hO (some A) (m - (a+1)) (cu - (a+1)) ((cs.drop (a+1)).flatMap cellVs) rfl (fun _=>by simp) HLd.out (fun q hq=>by simp only [Option.some.injEq] at hq;subst hq;exact HNd.out W hB) (one_cells _) (by unfold maxLen;omega) (by omega) hB.size ?_
      intro v' w5 hown' hgrow'
      obtain ⟨a9,c9,rfl,_⟩:=row_form hown'
      exact hK _ _ ⟨_,_,_,_,_,_,_,_,_,_,_,_,_,_,_,rfl,⟨(fun h=>J.f0 (un h)),(fun h=>J.f1 (un h)),(fun h=>J.f2 (un h)),(fun h h2=>absurd ((un h2).symm.trans h7) (by simp)),(fun h=>J.f4 (un h)),(fun h=>J.f5 (un h)),(fun h=>J.f6 (un h)),(fun _ h=>absurd (h.symm.trans upd_self) (by simp)),(fun h=>J.f8 (un h)),(fun h=>J.f9 (un h)),(fun h=>J.f10 (un h)),(fun h=>J.f11 (un h)),(fun _ _=>⟨a9,c9,rfl,HEr.out hown'⟩),(fun h=>J.f13 (un h)),(fun h=>J.f14 (un h)),(fun h=>absurd (((hcl 15 12 (by kernel_rfl) hLi)).symm.trans (un h)) (by simp)),(fun _=>hB.grown hgrow' hB.size (fun q hq=>(hO.lt q hq).1))⟩⟩
     ·skip
      have hN:=(hcl 15 14 (by kernel_rfl) (hcl 14 13 (by kernel_rfl) hLi))
      have hB:=J.b hN
      obtain rfl:=J.f1 (haft ⟨1,.data⟩ (by simp) rfl)
      obtain rfl:=J.f2 (haft ⟨2,.data⟩ (by simp) rfl)
      go_simp
      exact hK _ _ ⟨_,_,_,_,_,_,_,_,_,_,_,_,_,_,_,rfl,⟨(fun h=>J.f0 (un h)),(fun h=>J.f1 (un h)),(fun h=>J.f2 (un h)),(fun h h2=>(J.f3 (un h) (un h2))),(fun h=>J.f4 (un h)),(fun h=>J.f5 (un h)),(fun h=>J.f6 (un h)),(fun h h2=>(J.f7 (un h) (un h2))),(fun h=>J.f8 (un h)),(fun h=>J.f9 (un h)),(fun h=>J.f10 (un h)),(fun h=>J.f11 (un h)),(fun h h2=>(J.f12 (un h) (un h2))),(fun _=>rfl),(fun h=>absurd (((hcl 14 13 (by kernel_rfl) hLi)).symm.trans (un h)) (by simp)),(fun h=>absurd (((hcl 15 14 (by kernel_rfl) (hcl 14 13 (by kernel_rfl) hLi))).symm.trans (un h)) (by simp)),(fun _=>hB)⟩⟩
     ·skip
      have hN:=(hcl 15 14 (by kernel_rfl) hLi)
      have hB:=J.b hN
      obtain rfl:=J.f13 (haft ⟨13,.data⟩ (by simp) rfl)
      go_simp
      exact hK _ _ ⟨_,_,_,_,_,_,_,_,_,_,_,_,_,_,_,rfl,⟨(fun h=>J.f0 (un h)),(fun h=>J.f1 (un h)),(fun h=>J.f2 (un h)),(fun h h2=>(J.f3 (un h) (un h2))),(fun h=>J.f4 (un h)),(fun h=>J.f5 (un h)),(fun h=>J.f6 (un h)),(fun h h2=>(J.f7 (un h) (un h2))),(fun h=>J.f8 (un h)),(fun h=>J.f9 (un h)),(fun h=>J.f10 (un h)),(fun h=>J.f11 (un h)),(fun h h2=>(J.f12 (un h) (un h2))),(fun h=>J.f13 (un h)),(fun _=>rfl),(fun h=>absurd (((hcl 15 14 (by kernel_rfl) hLi)).symm.trans (un h)) (by simp)),(fun _=>hB)⟩⟩
     ·skip
      have hN:=hLi
      have hB:=J.b hN
      have h12:L 12=true:=(haft ⟨12,.data⟩ (by simp) rfl)
      have h7:L 7=true:=eq_true_of_ne_false (fun h3=>by have h4:=hcl 12 7 (by kernel_rfl) h3;rw [h12] at h4;cases h4)
      have hB:=J.b hLi
      obtain ⟨a9,c9,rfl,hC⟩:=J.f12 h12 hLi
      obtain rfl:=J.f14 (haft ⟨14,.data⟩ (by simp) rfl)
      have hbk:=(hB.block _ hglw).trans HG.out
      obtain ⟨y0,hy0⟩:=someB (p:=r * 2) hbk hrs
      have fz:=freeB (p:=r * 2) hbk
      go_simp
      exact hK _ _ ⟨_,_,_,_,_,_,_,_,_,_,_,_,_,_,_,rfl,⟨(fun h=>J.f0 (un h)),(fun h=>J.f1 (un h)),(fun h=>J.f2 (un h)),(fun h h2=>absurd ((un h2).symm.trans h7) (by simp)),(fun h=>J.f4 (un h)),(fun h=>J.f5 (un h)),(fun h=>J.f6 (un h)),(fun h h2=>absurd ((un h2).symm.trans h12) (by simp)),(fun h=>J.f8 (un h)),(fun h=>J.f9 (un h)),(fun h=>J.f10 (un h)),(fun h=>J.f11 (un h)),(fun _ h=>absurd (h.symm.trans upd_self) (by simp)),(fun h=>J.f13 (un h)),(fun h=>J.f14 (un h)),(fun _=>⟨a9,c9,W,hB,hC,rfl⟩),(fun h=>absurd (h.symm.trans upd_self) (by simp))⟩⟩
end Go.Proofs.Ytggmjiddadjilaj
