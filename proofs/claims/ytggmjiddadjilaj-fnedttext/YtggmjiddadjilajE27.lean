/-
  PROVED HERE: what the model's EdtText answers: of a table that is ok the table with another text of one cell, or the table as it is, in memory of its own; else nothing; nothing that was in memory is turned. Also: the laws' own pwGrid says true of two grids in memory with the same cells; nothing that was in memory is turned. Also: the laws' own pwRow and pwTable say true of two rows, and of two tables, in memory that are the same; nothing that was in memory is turned. Also: the laws' own pwOk says true; nothing in memory is turned.
-/
import Derived.Test.YtggmjiddadjilajE22
import Derived.Test.YtggmjiddadjilajE25
import Derived.Test.YtggmjiddadjilajE26
import Derived.Test.YtggmjiddadjilajE14
import Derived.Test.YtggmjiddadjilajE6
import Derived.Test.YtggmjiddadjilajE7
import Derived.Test.YtggmjiddadjilajE8
import Derived.Deep.RegionWith
import Derived.Deep.QuietTactic
import Derived.BigQuiet
import Derived.Deep.Cut
namespace Go.Proofs.Ytggmjiddadjilaj
open Go.RowKit

set_option maxRecDepth 100000 in
set_option maxHeartbeats 4000000 in
theorem specEdtText (ac ar:Option Addr) (cc cr:Nat) (t:T) (row at':Int) (hrow:-9223372036854775808≤row∧row≤9223372036854775807) (s:ByteArray) (hs:s.size≤maxLen) (w:World) {z:Nat} (hc:ColsAt w z (.slice ac t.cols.length cc) t.cols) (hr:RowsAt w z (.slice ar t.rows.length cr) t.rows) :
  Calls Try.prog 25 #[.agg #[.slice ac t.cols.length cc,.int .i64 t.head,.int .i64 t.foot,.slice ar t.rows.length cr,.int .i64 t.gap],.int .i64 row,.int .i64 at',.string s] w fun e w'=>∃ a1 c1 a2 c2 d1 d2,e=.returned (.tuple #[.agg #[.slice a1 d1 c1,.int .i64 (edText t row at' s).1.head,.int .i64 (edText t row at' s).1.foot,.slice a2 d2 c2,.int .i64 (edText t row at' s).1.gap],.bool (edText t row at' s).2])∧OwnT w' w.heap.size (.slice a1 d1 c1) (.slice a2 d2 c2) (edText t row at' s).1∧Below w.heap.size w w':=by
 obtain ⟨W0,hW0⟩:∃ W0,(w.alloc (.cells #[.slice ac t.cols.length cc,.int .i64 t.head,.int .i64 t.foot,.slice ar t.rows.length cr,.int .i64 t.gap] 37)).alloc (.cells #[.slice none 0 0,.int .i64 0,.int .i64 0,.slice none 0 0,.int .i64 0] 37)=W0:=⟨_,rfl⟩
 have K0:Below w.heap.size w W0:=by rw [← hW0];exact k_alloc (k_alloc (Below.refl _ _) _) _
 have T0:W0.heap[w.heap.size]?=some (.cells #[.slice ac t.cols.length cc,.int .i64 t.head,.int .i64 t.foot,.slice ar t.rows.length cr,.int .i64 t.gap] 37):=by rw [← hW0];exact alloc_at (newestB _ _)
 have T4:W0.heap[w.heap.size+1]?=some (.cells #[.slice none 0 0,.int .i64 0,.int .i64 0,.slice none 0 0,.int .i64 0] 37):=by rw [← hW0];exact alloc_new (by simp)
 have hsz:w.heap.size+1 < W0.heap.size:=(Array.getElem?_eq_some_iff.1 T4).1
 have KO:=Hid.intro (specTblOk ac ar cc cr t W0 (hc.kept K0) (hr.kept K0))
 have HCA:=Hid.intro hc
 have HRA:=Hid.intro hr
 have HK0:=Hid.intro K0
 have HT0:=Hid.intro T0
 have HT4:=Hid.intro T4
 obtain ⟨b0,b1,b2,b3,b4⟩:=fiveO T0
 clear hc hr K0 T0 T4
 go_enter Try.func25,Try.ntmps25
 go_upto_region 1 with fail
 clear hW0
 have hl4:w.heap.size≤w.heap.size+1:=by omega
 generalize w.heap.size+1=bz at HT4 hsz hl4 ⊢
 cases htk:tblB t with
 | false =>
  rw [htk] at KO
  have HE:Hid (edText t row at' s=(zT,false)):=by show _=_;rw [edText,if_neg (by rw [htk];simp)]
  clear htk
  go_wp2_with fail
  refine KO.out.mono ?_
  rintro e w1 ⟨rfl,hb1⟩
  replace HT4:=Hid.intro ((hb1.block _ (Array.getElem?_eq_some_iff.1 HT4.out).1).trans HT4.out)
  replace HK0:=Hid.intro (k_trans HK0.out hb1)
  obtain ⟨d0,d1,d2,d3,d4⟩:=fiveO HT4.out
  have fz:∀ p,w1.frozen? ⟨bz,p,none⟩=false:=fun p=>freeB HT4.out
  clear hb1 KO b0 b1 b2 b3 b4
  go_wp2
  exact bodyPost_ret (v:=.tuple #[.agg #[.slice none 0 0,.int .i64 0,.int .i64 0,.slice none 0 0,.int .i64 0],.bool false]) (by simp [results,Try.results25,go_sem,d0,d1,d2,d3,d4]) rfl ⟨none,0,none,0,0,0,by rw [HE.out];rfl,by rw [HE.out];exact ⟨[],rfl,⟨rfl,.inl ⟨rfl,rfl⟩⟩,⟨⟨rfl,.inl ⟨rfl,rfl⟩⟩,fun p hp=>absurd hp (by simp),.nil⟩⟩,k_set (k_set (k_set (k_set (k_set HK0.out hl4 _) hl4 _) hl4 _) hl4 _) hl4 _⟩
 | true =>
  rw [htk] at KO
  have HEd:Hid (edText t row at' s=if (hasB t row at' && txtOkB s)=true then (setRow t row.toNat ((t.rows.getD row.toNat dR).cells.set at'.toNat (txC ((t.rows.getD row.toNat dR).cells.getD at'.toNat dC) s)),true) else (t,false)):=by show _=_;rw [edText,if_pos htk]
  have H5:=Hid.intro (cells_5 htk)
  have hb8:=(tbl_bounds htk).2.2.1
  have HCp:=Hid.intro (fun W (h:Below w.heap.size w W)=>specl2Copy ac ar cc cr t htk W (HCA.out.kept h) (HRA.out.kept h))
  clear htk
  go_wp2_with fail
  refine KO.out.mono ?_
  rintro e w1 ⟨rfl,hb1⟩
  replace HT0:=Hid.intro ((hb1.block _ (Array.getElem?_eq_some_iff.1 HT0.out).1).trans HT0.out)
  replace HT4:=Hid.intro ((hb1.block _ (Array.getElem?_eq_some_iff.1 HT4.out).1).trans HT4.out)
  replace HK0:=Hid.intro (k_trans HK0.out hb1)
  clear hb1 KO b0 b1 b2 b3 b4
  obtain ⟨b0,b1,b2,b3,b4⟩:=fiveO HT0.out
  have KC:=Hid.intro (HCp.out w1 HK0.out)
  have hsz1:bz < w1.heap.size:=(Array.getElem?_eq_some_iff.1 HT4.out).1
  go_wp2_with fail
  refine KC.out.mono ?_
  rintro e w2 ⟨a1,c1,a2,c2,rfl,⟨ur,hur,hOc,hOr⟩,hb2⟩
  replace HT0:=Hid.intro ((hb2.block _ (Array.getElem?_eq_some_iff.1 HT0.out).1).trans HT0.out)
  replace HT4:=Hid.intro ((hb2.block _ (Array.getElem?_eq_some_iff.1 HT4.out).1).trans HT4.out)
  replace HK0:=Hid.intro (k_trans HK0.out hb2)
  have Hur:=Hid.intro hur
  have HOD:=Hid.intro ((OwnD.of hOc hOr).kept (k_alloc (Below.refl _ _) (.cells #[.slice a1 t.cols.length c1,.int .i64 t.head,.int .i64 t.foot,.slice a2 t.rows.length c2,.int .i64 t.gap] 37)))
  replace HT0:=Hid.intro (alloc_at (o:=(.cells #[.slice a1 t.cols.length c1,.int .i64 t.head,.int .i64 t.foot,.slice a2 t.rows.length c2,.int .i64 t.gap] 37)) HT0.out)
  replace HT4:=Hid.intro (alloc_at (o:=(.cells #[.slice a1 t.cols.length c1,.int .i64 t.head,.int .i64 t.foot,.slice a2 t.rows.length c2,.int .i64 t.gap] 37)) HT4.out)
  replace HK0:=Hid.intro (k_alloc HK0.out (.cells #[.slice a1 t.cols.length c1,.int .i64 t.head,.int .i64 t.foot,.slice a2 t.rows.length c2,.int .i64 t.gap] 37))
  have HX:Hid ((w2.alloc (.cells #[.slice a1 t.cols.length c1,.int .i64 t.head,.int .i64 t.foot,.slice a2 t.rows.length c2,.int .i64 t.gap] 37)).heap[w2.heap.size]?=some (.cells #[.slice a1 t.cols.length c1,.int .i64 t.head,.int .i64 t.foot,.slice a2 t.rows.length c2,.int .i64 t.gap] 37)):=newestB _ _
  have hxW:w2.heap.size < (w2.alloc (.cells #[.slice a1 t.cols.length c1,.int .i64 t.head,.int .i64 t.foot,.slice a2 t.rows.length c2,.int .i64 t.gap] 37)).heap.size:=by simp
  have hbx:bz < w2.heap.size:=Nat.lt_of_lt_of_le hsz1 hb2.size
  clear hOc hOr hb2 hur KC HCp b0 b1 b2 b3 b4
  go_upto_region 4 with fail
  generalize w2.alloc (.cells #[.slice a1 t.cols.length c1,.int .i64 t.head,.int .i64 t.foot,.slice a2 t.rows.length c2,.int .i64 t.gap] 37)=W1 at HT0 HT4 HK0 HX HOD hxW ⊢
  generalize w2.heap.size=xb at HX HOD hxW hbx ⊢
  generalize w1.heap.size=bB at HOD hsz1
  obtain ⟨b0,b1,b2,b3,b4⟩:=fiveO HT0.out
  have hsz:=hsz1
  obtain ⟨_,_,_,hrlen⟩:=At.form HRA.out
  cases hin:inB row 0 ((t.rows.length:Int) - 1) with
  | false =>
   have KI:=Hid.intro (fun W=>l1In_any row 0 ((t.rows.length:Int) - 1) W)
   rw [hin] at KI
   have HE:Hid (edText t row at' s=(t,false)):=by
    show _=_
    have:hasB t row at'=false:=by unfold hasB cellsInV;rw [hin];exact inB_false (by simp;omega)
    rw [HEd.out,if_neg (by rw [this];simp)]
   clear hin HEd
   obtain ⟨x0,x1,x2,x3,x4⟩:=fiveO HX.out
   go_wp2_with fail
   refine (KI.out _).mono ?_
   rintro e w3 ⟨rfl,e3⟩
   subst e3
   obtain ⟨d0,d1,d2,d3,d4⟩:=fiveO HT4.out
   have fz:∀ p,w3.frozen? ⟨bz,p,none⟩=false:=fun p=>freeB HT4.out
   go_wp2
   exact bodyPost_ret (v:=.tuple #[.agg #[.slice a1 t.cols.length c1,.int .i64 t.head,.int .i64 t.foot,.slice a2 t.rows.length c2,.int .i64 t.gap],.bool false]) (by simp [results,Try.results25,go_sem,d0,d1,d2,d3,d4]) rfl ⟨a1,c1,a2,c2,_,_,by rw [HE.out],by rw [HE.out];exact OwnT.base (OwnT.since (own_lt HOD.out rfl Hur.out) (Since.set (Since.set (Since.set (Since.set (Since.set (Since.refl _ _) (p:=⟨bz,0,none⟩) hsz _) (p:=⟨bz,1,none⟩) hsz _) (p:=⟨bz,2,none⟩) hsz _) (p:=⟨bz,3,none⟩) hsz _) (p:=⟨bz,4,none⟩) hsz _)) (by omega),k_set (k_set (k_set (k_set (k_set HK0.out hl4 _) hl4 _) hl4 _) hl4 _) hl4 _⟩
  | true =>
   obtain ⟨r,rfl⟩:∃ r:Nat,row=r:=⟨row.toNat,by simp only [inB,decide_eq_true_eq] at hin;omega⟩
   have hrl:r < t.rows.length:=by simp only [inB,decide_eq_true_eq] at hin;omega
   have KI:=Hid.intro (fun W=>l1In_any (r:Int) 0 ((t.rows.length:Int) - 1) W)
   rw [hin] at KI
   obtain ⟨bq,oq,cr',e',hq1,hq2,hlq,u,hx0',hx1',hx'⟩:=At.get (HRA.out.kept HK0.out) hrl
   simp only [Value.slice.injEq,true_and] at e'
   obtain ⟨rfl,rfl⟩:=e'
   obtain ⟨au,cu,rfl,hul'⟩:=At.form hx'
   have HHb:Hid (hasB t (r:Int) at'=inB at' 0 (((t.rows.getD r dR).cells.length:Int) - 1)):=by
    show _=_
    unfold hasB cellsInV
    rw [if_pos hin,Int.toNat_natCast]
   have hm5:(t.rows.getD r dR).cells.length≤1048576:=H5.out _ (by rw [getD_get dR hrl];exact List.getElem_mem hrl)
   have KA:=Hid.intro (fun W=>l1In_any at' 0 (((t.rows.getD r dR).cells.length:Int) - 1) W)
   rw [← HHb.out] at KA
   generalize hmE:(t.rows.getD r dR).cells.length=m at KA hx0' hm5
   clear hmE HHb hin hx1' hx' hul'
   unfold maxLen at hq2 hrlen
   go_wp2_with fail
   refine (KI.out _).mono ?_
   rintro e w3 ⟨rfl,e3⟩
   subst e3
   clear KI
   go_wp2_with fail
   refine (KA.out _).mono ?_
   rintro e w4 ⟨rfl,e4⟩
   subst e4
   clear KA b0 b1 b2 b3 b4 hx0'
   cases hh:hasB t (r:Int) at' with
   | false =>
    have HE:Hid (edText t (r:Int) at' s=(t,false)):=by show _=_;rw [HEd.out,if_neg (by rw [hh];simp)]
    clear hh HEd
    obtain ⟨x0,x1,x2,x3,x4⟩:=fiveO HX.out
    obtain ⟨d0,d1,d2,d3,d4⟩:=fiveO HT4.out
    have fz:∀ p,w4.frozen? ⟨bz,p,none⟩=false:=fun p=>freeB HT4.out
    go_wp2
    exact bodyPost_ret (v:=.tuple #[.agg #[.slice a1 t.cols.length c1,.int .i64 t.head,.int .i64 t.foot,.slice a2 t.rows.length c2,.int .i64 t.gap],.bool false]) (by simp [results,Try.results25,go_sem,d0,d1,d2,d3,d4]) rfl ⟨a1,c1,a2,c2,_,_,by rw [HE.out],by rw [HE.out];exact OwnT.base (OwnT.since (own_lt HOD.out rfl Hur.out) (Since.set (Since.set (Since.set (Since.set (Since.set (Since.refl _ _) (p:=⟨bz,0,none⟩) hsz _) (p:=⟨bz,1,none⟩) hsz _) (p:=⟨bz,2,none⟩) hsz _) (p:=⟨bz,3,none⟩) hsz _) (p:=⟨bz,4,none⟩) hsz _)) (by omega),k_set (k_set (k_set (k_set (k_set HK0.out hl4 _) hl4 _) hl4 _) hl4 _) hl4 _⟩
   | true =>
    have Hh:=Hid.intro hh
    clear hh
    have KX:=Hid.intro (specTxtOk s w4 hs)
    cases htx:txtOkB s with
    | false =>
     rw [htx] at KX
     have HE:Hid (edText t (r:Int) at' s=(t,false)):=by show _=_;rw [HEd.out,if_neg (by rw [htx];simp)]
     clear htx HEd
     go_wp2_with fail
     refine KX.out.mono ?_
     rintro e w5 ⟨rfl,e5⟩
     subst e5
     clear KX
     obtain ⟨x0,x1,x2,x3,x4⟩:=fiveO HX.out
     obtain ⟨d0,d1,d2,d3,d4⟩:=fiveO HT4.out
     have fz:∀ p,w5.frozen? ⟨bz,p,none⟩=false:=fun p=>freeB HT4.out
     go_wp2
     exact bodyPost_ret (v:=.tuple #[.agg #[.slice a1 t.cols.length c1,.int .i64 t.head,.int .i64 t.foot,.slice a2 t.rows.length c2,.int .i64 t.gap],.bool false]) (by simp [results,Try.results25,go_sem,d0,d1,d2,d3,d4]) rfl ⟨a1,c1,a2,c2,_,_,by rw [HE.out],by rw [HE.out];exact OwnT.base (OwnT.since (own_lt HOD.out rfl Hur.out) (Since.set (Since.set (Since.set (Since.set (Since.set (Since.refl _ _) (p:=⟨bz,0,none⟩) hsz _) (p:=⟨bz,1,none⟩) hsz _) (p:=⟨bz,2,none⟩) hsz _) (p:=⟨bz,3,none⟩) hsz _) (p:=⟨bz,4,none⟩) hsz _)) (by omega),k_set (k_set (k_set (k_set (k_set HK0.out hl4 _) hl4 _) hl4 _) hl4 _) hl4 _⟩
    | true =>
     rw [htx] at KX
     have HE:Hid (edText t (r:Int) at' s=(setRow t (r:Int).toNat ((t.rows.getD (r:Int).toNat dR).cells.set at'.toNat (txC ((t.rows.getD (r:Int).toNat dR).cells.getD at'.toNat dC) s)),true)):=by show _=_;rw [HEd.out,if_pos (by rw [Hh.out,htx];rfl)]
     clear htx HEd
     go_wp2_with fail
     refine KX.out.mono ?_
     rintro e w5 ⟨rfl,e5⟩
     subst e5
     clear KX
     obtain ⟨r',a,er,rfl,hrl',hal⟩:=hasB_iff.1 Hh.out
     obtain rfl:r=r':=by omega
     rw [Int.toNat_natCast,Int.toNat_natCast] at HE
     have hur:=Hur.out
     have hul:ur.length=t.rows.length:=by rw [← hur,List.length_map]
     have hge:ur[r]?=some (ur[r]'(by omega)):=List.getElem?_eq_getElem (by omega)
     have hpr:(ur[r]'(by omega)).2=t.rows.getD r dR:=by rw [← map_snd_get hge,hur]
     generalize hpE:ur[r]'(by omega)=p at hge hpr
     clear hpE
     rw [← hpr] at hal HE
     obtain ⟨g,cg,arr,ev,hg1,hg2,hgl,hgB,harr,hasz,ha0,ha1⟩:=own_get HOD.out.2.1 hge
     rw [hul] at ev hg1
     simp only [Value.slice.injEq,true_and] at ev
     obtain ⟨rfl,rfl⟩:=ev
     obtain ⟨h,cu,cur,hpv,hh1,hh2,hh3,hh4⟩:=own_row HOD.out.2.1 hge hal
     rw [hpv] at ha0
     have HOw:=Hid.intro (OwnD.put HOD.out (Below.refl _ _) hge (j:=0) hpv hal (by decide) (x:=txC (p.2.cells.getD a dC) s) (v:=.string s) (by rw [getD_get dC hal];rfl))
     have hhx:h ≠ xb:=fun e=>by subst e;rw [HX.out] at hh1;simp at hh1
     have hhl:h < w5.heap.size:=(Array.getElem?_eq_some_iff.1 hh1).1
     have hhz:h ≠ bz:=fun e=>by subst e;rw [HT4.out] at hh1;simp at hh1
     have hBw:w.heap.size≤h:=by
      have:=(row_lt (HOD.out.2.1.cells p (List.mem_of_getElem? hge)) (b:=h) (by rw [hpv];rfl)).1
      omega
     have HK4:=Hid.intro (HK0.out.setCell (p:=⟨h,a * 11,none⟩) hBw (.string s))
     have hZ4:(w5.setCell ⟨h,a * 11,none⟩ (.string s)).heap[bz]?=some (.cells #[.slice none 0 0,.int .i64 0,.int .i64 0,.slice none 0 0,.int .i64 0] 37):=(Below.heap_setCell _ _ _ _ (by dsimp only;exact fun e=>hhz e.symm)).trans HT4.out
     have hX4:(w5.setCell ⟨h,a * 11,none⟩ (.string s)).heap[xb]?=some (.cells #[.slice a1 t.cols.length c1,.int .i64 t.head,.int .i64 t.foot,.slice (some ⟨g,0,none⟩) t.rows.length c2,.int .i64 t.gap] 37):=(Below.heap_setCell _ _ _ _ (by dsimp only;exact fun e=>hhx e.symm)).trans HX.out
     have L0:=(cellB harr).trans ha0
     obtain ⟨y0,hy0⟩:=someB (p:=a * 11) hh1 (by omega)
     have fzh:w5.frozen? ⟨h,a * 11,none⟩=false:=freeB hh1
     obtain ⟨x0,x1,x2,x3,x4⟩:=fiveO HX.out
     have HX4:=Hid.intro hX4
     have HZ4:=Hid.intro hZ4
     have HUr:Hid ((ur.set r (p.1,⟨p.2.cells.set a (txC (p.2.cells.getD a dC) s),p.2.whole⟩)).map (·.2)=(setRow t r (p.2.cells.set a (txC (p.2.cells.getD a dC) s))).rows):=by
      show _=_
      rw [map_set_snd,hur,setRow,hpr]
     unfold maxLen at hg2 hh3
     have hln:=hal
     generalize p.2.cells.length=ml at hln hh2 L0
     clear hX4 hZ4 hh1 harr ha0 ha1 hal hpr hpv hge hur hul
     go_upto_region 7 with fail
     generalize w5.setCell ⟨h,a * 11,none⟩ (.string s)=W6 at HK4 HX4 HZ4 HOw ⊢
     clear x0 x1 x2 x3 x4 L0 hy0 fzh
     obtain ⟨x0,x1,x2,x3,x4⟩:=fiveO HX4.out
     obtain ⟨d0,d1,d2,d3,d4⟩:=fiveO HZ4.out
     have fz:∀ p,W6.frozen? ⟨bz,p,none⟩=false:=fun p=>freeB HZ4.out
     go_wp2
     exact bodyPost_ret (v:=.tuple #[.agg #[.slice a1 t.cols.length c1,.int .i64 t.head,.int .i64 t.foot,.slice (some ⟨g,0,none⟩) t.rows.length c2,.int .i64 t.gap],.bool true]) (by simp [results,Try.results25,go_sem,d0,d1,d2,d3,d4]) rfl ⟨a1,c1,some ⟨g,0,none⟩,c2,_,_,by rw [HE.out];rfl,by rw [HE.out];exact OwnT.base (OwnT.since (own_lt HOw.out rfl HUr.out) (Since.set (Since.set (Since.set (Since.set (Since.set (Since.refl _ _) (p:=⟨bz,0,none⟩) hsz _) (p:=⟨bz,1,none⟩) hsz _) (p:=⟨bz,2,none⟩) hsz _) (p:=⟨bz,3,none⟩) hsz _) (p:=⟨bz,4,none⟩) hsz _)) (by omega),k_set (k_set (k_set (k_set (k_set HK4.out hl4 _) hl4 _) hl4 _) hl4 _) hl4 _⟩
end Go.Proofs.Ytggmjiddadjilaj
namespace Go.Proofs.Ytggmjiddadjilaj
open Go.RowKit

set_option maxRecDepth 100000 in
set_option maxHeartbeats 1000000 in
theorem pwGrid_any (R C:Int) (v1 v2:Value) (gs:List GC) (w:World) {z1 z2:Nat} (h1:GsAt w z1 v1 gs) (h2:GsAt w z2 v2 gs) :
  Calls Try.prog 26 #[.agg #[.int .i64 R,.int .i64 C,v1],.agg #[.int .i64 R,.int .i64 C,v2]] w fun e w'=>e=.returned (.bool true)∧Below w.heap.size w w':=by
 obtain ⟨a1,cap1,rfl,hlen⟩:=At.form h1
 obtain ⟨a2,cap2,rfl,_⟩:=At.form h2
 unfold maxLen at hlen
 have hne:((gs.length:Int) != (gs.length:Int))=false:=by simp
 have hRR:(R != R)=false:=by simp
 have hCC:(C != C)=false:=by simp
 have K0:=k_alloc (k_alloc (Below.refl w.heap.size w) (.cells #[.int .i64 R,.int .i64 C,.slice a1 gs.length cap1] 25)) (.cells #[.int .i64 R,.int .i64 C,.slice a2 gs.length cap2] 25)
 have H1:=Hid.intro (h1.kept K0)
 have H2:=Hid.intro (h2.kept K0)
 have HK:=Hid.intro K0
 clear h1 h2 K0
 go_enter Try.func26,Try.ntmps26
 go_wp2_with fail
 generalize hW:(w.alloc (.cells #[.int .i64 R,.int .i64 C,.slice a1 gs.length cap1] 25)).alloc (.cells #[.int .i64 R,.int .i64 C,.slice a2 gs.length cap2] 25)=W0 at H1 H2 HK
 have y1:W0.cell? ⟨w.heap.size,2,none⟩=some (.slice a1 gs.length cap1):=by rw [← hW];exact cellB ((Below.heap_alloc _ _ _ (by simp)).trans (newestB _ _))
 have y2:W0.cell? ⟨w.heap.size+1,2,none⟩=some (.slice a2 gs.length cap2):=by
  have h:=newestB (w.alloc (.cells #[.int .i64 R,.int .i64 C,.slice a1 gs.length cap1] 25)) (.cells #[.int .i64 R,.int .i64 C,.slice a2 gs.length cap2] 25)
  rw [hW] at h
  exact cellB (by simpa using h)
 go_loopw [5] (fun i W=>∃ k n:Nat,k≤gs.length∧i=.int .i64 k∧W=W0.drewN n) (fun i _=>gs.length - (intOf i).toNat)
 case atStart=>exact ⟨0,0,Nat.zero_le _,rfl,hW ▸ rfl⟩
 case round =>
  obtain ⟨k,nd,hk,rfl,rfl⟩:=hrel
  by_cases hlt:k < gs.length
  ·obtain ⟨b1,off1,cap1',e1,hc11,hc12,hbl1,x0,_⟩:=At.get H1.out hlt
   simp only [Value.slice.injEq,true_and] at e1
   obtain ⟨rfl,rfl⟩:=e1
   obtain ⟨b2,off2,cap2',e2,hc21,hc22,hbl2,z0,_⟩:=At.get H2.out hlt
   simp only [Value.slice.injEq,true_and] at e2
   obtain ⟨rfl,rfl⟩:=e2
   unfold maxLen at hc12 hc22
   generalize gs.getD k dG=x at x0 z0
   obtain ⟨x0,x1,x2,x3,x4⟩:=x0
   obtain ⟨z0,z1,z2,z3,z4⟩:=z0
   go_wp2_with fail
   go_quiet (fail)
   trace_state
   go_wp2
   go_roundw
   case rel=>exact ⟨k+1,nd+nq,by omega,by go_num,rfl⟩
   case measure=>simp [intOf];omega
  ·go_wp2
   go_ret
   exact ⟨rfl,k_drewN HK.out _⟩
end Go.Proofs.Ytggmjiddadjilaj
namespace Go.Proofs.Ytggmjiddadjilaj
open Go.RowKit Go.BigFrame

set_option maxRecDepth 100000 in
set_option maxHeartbeats 2000000 in
theorem pwRow_same (u1 u2:Value) (cs:List C) (q:Bool) (w:World) {z1 z2:Nat} (h1:CellsAt w z1 u1 cs) (h2:CellsAt w z2 u2 cs) :
  Calls Try.prog 54 #[.agg #[u1,.bool q],.agg #[u2,.bool q]] w fun e w'=>e=.returned (.bool true)∧Below w.heap.size w w':=by
 obtain ⟨a1,cap1,rfl,hlen⟩:=At.form h1
 obtain ⟨a2,cap2,rfl,_⟩:=At.form h2
 unfold maxLen at hlen
 have hne:((cs.length:Int) != (cs.length:Int))=false:=by simp
 have hqq:(q != q)=false:=by simp
 have K0:=k_alloc (k_alloc (Below.refl w.heap.size w) (.cells #[.slice a1 cs.length cap1,.bool q] 52)) (.cells #[.slice a2 cs.length cap2,.bool q] 52)
 have H1:=Hid.intro (h1.kept K0)
 have H2:=Hid.intro (h2.kept K0)
 have HK:=Hid.intro K0
 clear h1 h2 K0
 go_enter Try.func54,Try.ntmps54
 go_wp2_with fail
 generalize hW:(w.alloc (.cells #[.slice a1 cs.length cap1,.bool q] 52)).alloc (.cells #[.slice a2 cs.length cap2,.bool q] 52)=W0 at H1 H2 HK
 have y1:W0.cell? ⟨w.heap.size,0,none⟩=some (.slice a1 cs.length cap1):=by rw [← hW];exact cellB ((Below.heap_alloc _ _ _ (by simp)).trans (newestB _ _))
 have y2:W0.cell? ⟨w.heap.size+1,0,none⟩=some (.slice a2 cs.length cap2):=by
  have h:=newestB (w.alloc (.cells #[.slice a1 cs.length cap1,.bool q] 52)) (.cells #[.slice a2 cs.length cap2,.bool q] 52)
  rw [hW] at h
  exact cellB (by simpa using h)
 go_loopw [5] (fun i W=>∃ k n:Nat,k≤cs.length∧i=.int .i64 k∧W=W0.drewN n) (fun i _=>cs.length - (intOf i).toNat)
 case atStart=>exact ⟨0,0,Nat.zero_le _,rfl,hW ▸ rfl⟩
 case round =>
  obtain ⟨k,nd,hk,rfl,rfl⟩:=hrel
  by_cases hlt:k < cs.length
  ·obtain ⟨b1,off1,cap1',e1,hc11,hc12,hbl1,x0,_⟩:=At.get H1.out hlt
   simp only [Value.slice.injEq,true_and] at e1
   obtain ⟨rfl,rfl⟩:=e1
   obtain ⟨b2,off2,cap2',e2,hc21,hc22,hbl2,z0,_⟩:=At.get H2.out hlt
   simp only [Value.slice.injEq,true_and] at e2
   obtain ⟨rfl,rfl⟩:=e2
   unfold maxLen at hc12 hc22
   generalize cs.getD k dC=x at x0 z0
   obtain ⟨x0,x1,x2,x3,x4,x5,x6,x7,x8,x9,x10⟩:=x0
   obtain ⟨z0,z1,z2,z3,z4,z5,z6,z7,z8,z9,z10⟩:=z0
   go_wp2_with fail
   go_quiet (fail)
   go_wp2
   go_roundw
   case rel=>exact ⟨k+1,nd+nq,by omega,by go_num,rfl⟩
   case measure=>simp [intOf];omega
  ·go_wp2
   go_ret
   exact ⟨rfl,k_drewN HK.out _⟩
set_option maxRecDepth 100000 in
set_option maxHeartbeats 4000000 in
theorem pwTable_same (v1 v2:Value) (t:T) (w:World) {z1 z2:Nat} (h1:TblAt w z1 v1 t) (h2:TblAt w z2 v2 t) :
  Calls Try.prog 16 #[v1,v2] w fun e w'=>e=.returned (.bool true)∧Below w.heap.size w w':=by
 obtain ⟨vc1,vr1,rfl,h1c,h1r⟩:=h1
 obtain ⟨vc2,vr2,rfl,h2c,h2r⟩:=h2
 obtain ⟨ac1,cc1,rfl,hl1⟩:=At.form h1c
 obtain ⟨ar1,cr1,rfl,hl2⟩:=At.form h1r
 obtain ⟨ac2,cc2,rfl,_⟩:=At.form h2c
 obtain ⟨ar2,cr2,rfl,_⟩:=At.form h2r
 unfold maxLen at hl1 hl2
 have hmx:Try.prog.follows .mixedOrders=true:=by kernel_rfl
 have hh:(t.head != t.head)=false:=by simp
 have hf:(t.foot != t.foot)=false:=by simp
 have hg:(t.gap != t.gap)=false:=by simp
 have hn1:((t.cols.length:Int) != (t.cols.length:Int))=false:=by simp
 have hn2:((t.rows.length:Int) != (t.rows.length:Int))=false:=by simp
 have K0:=k_alloc (k_alloc (Below.refl w.heap.size w) (.cells #[.slice ac1 t.cols.length cc1,.int .i64 t.head,.int .i64 t.foot,.slice ar1 t.rows.length cr1,.int .i64 t.gap] 37)) (.cells #[.slice ac2 t.cols.length cc2,.int .i64 t.head,.int .i64 t.foot,.slice ar2 t.rows.length cr2,.int .i64 t.gap] 37)
 have HC1:=Hid.intro (h1c.kept K0)
 have HC2:=Hid.intro (h2c.kept K0)
 have HR1:=Hid.intro (h1r.kept K0)
 have HR2:=Hid.intro (h2r.kept K0)
 have HK:=Hid.intro K0
 clear h1c h2c h1r h2r K0
 go_enter Try.func16,Try.ntmps16
 go_wp2_with fail
 generalize hW:(w.alloc (.cells #[.slice ac1 t.cols.length cc1,.int .i64 t.head,.int .i64 t.foot,.slice ar1 t.rows.length cr1,.int .i64 t.gap] 37)).alloc (.cells #[.slice ac2 t.cols.length cc2,.int .i64 t.head,.int .i64 t.foot,.slice ar2 t.rows.length cr2,.int .i64 t.gap] 37)=W0 at HC1 HC2 HR1 HR2 HK
 have Y1:Hid (W0.heap[w.heap.size]?=some (.cells #[.slice ac1 t.cols.length cc1,.int .i64 t.head,.int .i64 t.foot,.slice ar1 t.rows.length cr1,.int .i64 t.gap] 37)):=by
  show _=_
  rw [← hW]
  exact (Below.heap_alloc _ _ _ (by simp)).trans (newestB _ _)
 have Y2:Hid (W0.heap[w.heap.size+1]?=some (.cells #[.slice ac2 t.cols.length cc2,.int .i64 t.head,.int .i64 t.foot,.slice ar2 t.rows.length cr2,.int .i64 t.gap] 37)):=by
  have h:=newestB (w.alloc (.cells #[.slice ac1 t.cols.length cc1,.int .i64 t.head,.int .i64 t.foot,.slice ar1 t.rows.length cr1,.int .i64 t.gap] 37)) (.cells #[.slice ac2 t.cols.length cc2,.int .i64 t.head,.int .i64 t.foot,.slice ar2 t.rows.length cr2,.int .i64 t.gap] 37)
  rw [hW] at h
  show _=_
  simpa using h
 go_loopw [5] (fun i W=>∃ k:Nat,k≤t.cols.length∧i=.int .i64 k∧Hid (Below W0.heap.size W0 W)) (fun i _=>t.cols.length - (intOf i).toNat)
 case atStart=>exact ⟨0,Nat.zero_le _,rfl,hW ▸ Below.refl _ _⟩
 case round =>
  obtain ⟨k,hk,rfl,HB⟩:=hrel
  obtain ⟨p0,p1,p2,p3,p4⟩:=fiveO ((HB.out.block _ (Array.getElem?_eq_some_iff.1 Y1.out).1).trans Y1.out)
  obtain ⟨r0,r1,r2,r3,r4⟩:=fiveO ((HB.out.block _ (Array.getElem?_eq_some_iff.1 Y2.out).1).trans Y2.out)
  by_cases hlt:k < t.cols.length
  ·obtain ⟨b1,off1,cap1',e1,hc11,hc12,hbl1,x0,x1⟩:=At.get (HC1.out.kept HB.out) hlt
   simp only [Value.slice.injEq,true_and] at e1
   obtain ⟨rfl,rfl⟩:=e1
   obtain ⟨b2,off2,cap2',e2,hc21,hc22,hbl2,z0,z1⟩:=At.get (HC2.out.kept HB.out) hlt
   simp only [Value.slice.injEq,true_and] at e2
   obtain ⟨rfl,rfl⟩:=e2
   unfold maxLen at hc12 hc22
   generalize t.cols.getD k (0,0)=x at x0 x1 z0 z1
   go_wp2_with fail
   go_quiet (fail)
   go_wp2
   go_roundw
   case rel=>exact ⟨k+1,by omega,by go_num,k_drewN HB.out _⟩
   case measure=>simp [intOf];omega
  ·go_wp2_with fail
   go_loopw [6] (fun i W=>∃ k:Nat,k≤t.rows.length∧i=.int .i64 k∧Hid (Below W0.heap.size W0 W)) (fun i _=>t.rows.length - (intOf i).toNat)
   case atStart=>exact ⟨0,Nat.zero_le _,rfl,HB⟩
   case round =>
    clear p0 p1 p2 p3 p4 r0 r1 r2 r3 r4 hlt hk HB
    rename World=>wr
    obtain ⟨k,hk,rfl,HB⟩:=hrel
    have HY1:=(HB.out.block _ (Array.getElem?_eq_some_iff.1 Y1.out).1).trans Y1.out
    have HY2:=(HB.out.block _ (Array.getElem?_eq_some_iff.1 Y2.out).1).trans Y2.out
    by_cases hlt:k < t.rows.length
    ·obtain ⟨b1,off1,cap1',e1,hc11,hc12,hbl1,u1,x0,x1,x2⟩:=At.get (HR1.out.kept HB.out) hlt
     simp only [Value.slice.injEq,true_and] at e1
     obtain ⟨rfl,rfl⟩:=e1
     obtain ⟨b2,off2,cap2',e2,hc21,hc22,hbl2,u2,z0,z1,z2⟩:=At.get (HR2.out.kept HB.out) hlt
     simp only [Value.slice.injEq,true_and] at e2
     obtain ⟨rfl,rfl⟩:=e2
     unfold maxLen at hc12 hc22
     generalize t.rows.getD k dR=x at x1 x2 z1 z2
     obtain ⟨c1,d1,rfl,_⟩:=At.form x2
     obtain ⟨c2,d2,rfl,_⟩:=At.form z2
     have X2:=Hid.intro x2
     have Z2:=Hid.intro z2
     clear x2 z2
     have l1:=(Array.getElem?_eq_some_iff.1 HY1).1
     have l2:=(Array.getElem?_eq_some_iff.1 HY2).1
     obtain ⟨p0,p1,p2,p3,p4⟩:=fiveO HY1
     obtain ⟨r0,r1,r2,r3,r4⟩:=fiveO HY2
     have KR:=Hid.intro (fun (p:BW wr)=>bw_of (pwRow_same (.slice c1 x.cells.length d1) (.slice c2 x.cells.length d2) x.cells x.whole p.u (X2.out.kept p.h) (Z2.out.kept p.h)))
     go_upto_region 11 with fail
     have m3:=bw_cell (a:=⟨w.heap.size,3,none⟩) l1 p3
     have n3:=bw_cell (a:=⟨w.heap.size+1,3,none⟩) l2 r3
     have m5:=bw_cell hbl1 x0
     have m6:=bw_cell hbl1 x1
     have n5:=bw_cell hbl2 z0
     have n6:=bw_cell hbl2 z1
     have hne:=bw_some wr
     clear p0 p1 p2 p3 p4 r0 r1 r2 r3 r4 x0 x1 z0 z1
     refine wp_region_quiet_below hmx (by kernel_rfl) ?_
     repeat (go_big_quiet_step (first | (go_at_call 54;refine KR.out _)))
     refine wpQuiet_nil ?_
     intro W9 hw'
     obtain ⟨⟨Wx,hW9⟩,hw''⟩:=hw'
     subst hw''
     have HB9:=Hid.intro (k_trans HB.out hW9)
     clear m3 n3 m5 m6 n5 n6 hne KR hW9
     go_wp2
     go_roundw
     case rel=>exact ⟨k+1,by omega,by go_num,HB9⟩
     case measure=>simp [intOf];omega
    ·obtain ⟨p0,p1,p2,p3,p4⟩:=fiveO HY1
     go_wp2
     go_ret
     exact ⟨rfl,k_trans HK.out HB.out⟩
end Go.Proofs.Ytggmjiddadjilaj
namespace Go.Proofs.Ytggmjiddadjilaj
open Go.RowKit

theorem abcOk:txtOkB ⟨#[97,98,32,99]⟩=true:=by decide +kernel
theorem pwOk_any (w:World):Calls Try.prog 12 #[] w fun e w'=>e=.returned (.bool true)∧w'=w:=by
 go_enter Try.func12,Try.ntmps12
 go_wp2_with fail
 refine (implTxtOk _ _ (by unfold maxLen;decide)).mono ?_
 rw [abcOk]
 rintro e w1 ⟨rfl,rfl⟩
 go_wp2
 go_ret
 exact ⟨rfl,rfl⟩
end Go.Proofs.Ytggmjiddadjilaj
