/-
  PROVED HERE: what the model's EdtPut answers: of a table that is ok the table with one cell more, or the table as it is, in memory of its own; else nothing; nothing that was in memory is turned.
-/
import Derived.Test.YtggmjiddadjilaoD14
import Derived.Test.YtggmjiddadjilaoD16
import Derived.Test.YtggmjiddadjilaoD17
import Derived.Test.YtggmjiddadjilaoD8
import Derived.Test.YtggmjiddadjilaoD10
import Derived.Test.YtggmjiddadjilaoD11
import Derived.Test.YtggmjiddadjilaoD6
namespace Go.Proofs.Ytggmjiddadjilao
open Go.RowKit

/-- where the cells of a slice lie that is cut out of another one -/
def Src (w:World) (A:Option Addr) (k:Nat) (news:List Value):Prop:=(k ≠ 0→A ≠ none)∧∀ W,Below w.heap.size w W→∀ p,A=some p→∀ j u,news[j]?=some u→W.cell? (p.add j)=some u
theorem add_nought (p:Addr):p.add 0=p:=by simp [Addr.add]
theorem src_cut {w:World} {z:Nat} {au:Option Addr} {m cu:Nat} {cs:List C} (h:CellsAt w z (.slice au m cu) cs) (hm:cs.length=m) (hc:m≤cu) (l k:Nat) (hl:l≤k) (hk:k≤m) (A:Option Addr) (hA:A=(if cu=l then au else au.map (fun q=>q.add (l * 11)))) :
  Src w A (k - l) (((cs.take k).drop l).flatMap cellVs):=by
 subst hm
 subst hA
 by_cases hz:k=l
 ·subst hz
  have:(cs.take k).drop k=[]:=List.drop_eq_nil_of_le (by rw [List.length_take];omega)
  rw [this]
  exact ⟨fun h=>absurd (Nat.sub_self k) h,fun W _ p _ j u hu=>by simp at hu⟩
 ·obtain ⟨bh,oh,cu',eh,_,_,_,_⟩:=At.get h (i:=0) (by omega)
  simp only [Value.slice.injEq,true_and] at eh
  obtain ⟨rfl,rfl⟩:=eh
  rw [if_neg (by omega)]
  refine ⟨fun _=>by simp,fun W hW p hp j u hu=>?_⟩
  simp only [Option.map_some,Option.some.injEq] at hp
  subst hp
  have hcut:cs.flatMap cellVs=(cs.take l).flatMap cellVs ++ ((cs.take k).drop l).flatMap cellVs ++ (cs.drop k).flatMap cellVs:=by
   rw [← List.flatMap_append,← List.flatMap_append]
   congr 1
   have e1:cs.take l=(cs.take k).take l:=by rw [List.take_take,Nat.min_eq_left hl]
   rw [e1,List.take_append_drop,List.take_append_drop]
  have hl0:((cs.take l).flatMap cellVs).length=l * 11:=by rw [flat_len cellVs 11 (fun _=>rfl),List.length_take,Nat.min_eq_left (by omega)]
  have h9:=news_cells (h.kept hW) _ rfl (l * 11+j) u (by
   rw [hcut,List.append_assoc,List.getElem?_append_right (by rw [hl0];omega),hl0,Nat.add_sub_cancel_left,List.getElem?_append_left (List.getElem?_eq_some_iff.1 hu).1]
   exact hu)
  have e9:(Addr.add ⟨bh,oh,none⟩ (l * 11+j))=Addr.add (Addr.add ⟨bh,oh,none⟩ (l * 11)) j:=by
   rw [Addr.add_lit,Addr.add_lit,Addr.add_lit,Nat.add_assoc]
  rw [← e9]
  exact h9
structure PsJ (xb g r a n c2 m cu:Nat) (au:Option Addr) (cs:List C) (x:C) (W3:World) (L:Nat→Bool) (W:World) (v59 v60 v61 v62 v63 v64 v65 v66 v67 v68 v69 v70 v71 v72 v73 v74 v75:Value):Prop where
 f0:L 0=true→v59=.pointer (some ⟨xb,3,none⟩)
 f1:L 1=true→v60=.slice (some ⟨g,0,none⟩) n c2
 f2:L 2=true→v61=.int .i64 r
 f3:L 3=true→L 7=false→W.ownsRow W3.heap.size 62 11 v62 0 []
 f4:L 4=true→v63=.slice au m cu
 f5:L 5=true→v64=.int .i64 a
 f6:L 6=true→∃ A c,v65=.slice A a c∧Src W3 A a ((cs.take a).flatMap cellVs)
 f7:L 7=true→L 10=false→W.ownsRow W3.heap.size 62 11 v66 a ((cs.take a).flatMap cellVs)
 f8:L 8=true→v67=.agg #[.string x.s,.int .i64 x.c,.int .i64 x.r,.int .i64 x.a1,.int .i64 x.b1,.int .i64 x.a2,.int .i64 x.b2,.int .i64 x.a3,.int .i64 x.b3,.int .i64 x.a4,.int .i64 x.b4]
 f9:L 9=true→L 10=false→∃ vb,v68=.slice (some ⟨vb,0,none⟩) 1 1∧W.heap[vb]?=some (.cells (cellVs x).toArray 62)∧W3.heap.size≤vb
 f10:L 10=true→L 14=false→W.ownsRow W3.heap.size 62 11 v69 (a+1) ((cs.take a).flatMap cellVs ++ cellVs x)
 f11:L 11=true→v70=.slice au m cu
 f12:L 12=true→v71=.int .i64 a
 f13:L 13=true→∃ A c,v72=.slice A (m - a) c∧Src W3 A (m - a) ((cs.drop a).flatMap cellVs)
 f14:L 14=true→L 17=false→∃ ad c,v73=.slice ad (a+1+(m - a)) c∧OwnC W W3.heap.size v73 (insC cs a x)
 f15:L 15=true→v74=.pointer (some ⟨g,r * 2,none⟩)
 f16:L 16=true→v75=.pointer (some ⟨g,r * 2,none⟩)
 f17:L 17=true→∃ ad c W9,Below W3.heap.size W3 W9∧OwnC W9 W3.heap.size (.slice ad (a+1+(m - a)) c) (insC cs a x)∧W=W9.setCell ⟨g,r * 2,none⟩ (.slice ad (a+1+(m - a)) c)
 b:L 17=false→Below W3.heap.size W3 W
 ne:L 3=true→L 9=true→L 7=false→∀ vb,v68=.slice (some ⟨vb,0,none⟩) 1 1→v62.ownBlock ≠ some vb
set_option maxRecDepth 100000 in
set_option maxHeartbeats 4000000 in
theorem specEdtPut (ac ar:Option Addr) (cc cr:Nat) (t:T) (row at':Int) (hrow:-9223372036854775808≤row∧row≤9223372036854775807) (x:C) (hxs:x.s.size≤maxLen) (w:World) {z:Nat} (hc:ColsAt w z (.slice ac t.cols.length cc) t.cols) (hr:RowsAt w z (.slice ar t.rows.length cr) t.rows) :
  Calls Try.prog 22 #[.agg #[.slice ac t.cols.length cc,.int .i64 t.head,.int .i64 t.foot,.slice ar t.rows.length cr,.int .i64 t.gap],.int .i64 row,.int .i64 at',.agg #[.string x.s,.int .i64 x.c,.int .i64 x.r,.int .i64 x.a1,.int .i64 x.b1,.int .i64 x.a2,.int .i64 x.b2,.int .i64 x.a3,.int .i64 x.b3,.int .i64 x.a4,.int .i64 x.b4]] w fun e w'=>∃ a1 c1 a2 c2 d1 d2,e=.returned (.tuple #[.agg #[.slice a1 d1 c1,.int .i64 (edPut t row at' x).1.head,.int .i64 (edPut t row at' x).1.foot,.slice a2 d2 c2,.int .i64 (edPut t row at' x).1.gap],.bool (edPut t row at' x).2])∧OwnT w' w.heap.size (.slice a1 d1 c1) (.slice a2 d2 c2) (edPut t row at' x).1∧Below w.heap.size w w':=by
 obtain ⟨W0,hW0⟩:∃ W0,((w.alloc (.cells #[.slice ac t.cols.length cc,.int .i64 t.head,.int .i64 t.foot,.slice ar t.rows.length cr,.int .i64 t.gap] 56)).alloc (.cells #[.string x.s,.int .i64 x.c,.int .i64 x.r,.int .i64 x.a1,.int .i64 x.b1,.int .i64 x.a2,.int .i64 x.b2,.int .i64 x.a3,.int .i64 x.b3,.int .i64 x.a4,.int .i64 x.b4] 62)).alloc (.cells #[.slice none 0 0,.int .i64 0,.int .i64 0,.slice none 0 0,.int .i64 0] 56)=W0:=⟨_,rfl⟩
 have K0:Below w.heap.size w W0:=by rw [← hW0];exact k_alloc (k_alloc (k_alloc (Below.refl _ _) _) _) _
 have T0:W0.heap[w.heap.size]?=some (.cells #[.slice ac t.cols.length cc,.int .i64 t.head,.int .i64 t.foot,.slice ar t.rows.length cr,.int .i64 t.gap] 56):=by rw [← hW0];exact alloc_at (alloc_at (newestB _ _))
 have T3:W0.heap[w.heap.size+1]?=some (.cells (cellVs x).toArray 62):=by rw [← hW0];exact alloc_at (alloc_new (by simp))
 have T4:W0.heap[w.heap.size+1+1]?=some (.cells #[.slice none 0 0,.int .i64 0,.int .i64 0,.slice none 0 0,.int .i64 0] 56):=by rw [← hW0];exact alloc_new (by simp)
 have hsz:w.heap.size+1+1 < W0.heap.size:=(Array.getElem?_eq_some_iff.1 T4).1
 have KO:=Hid.intro (specTblOk ac ar cc cr t W0 (hc.kept K0) (hr.kept K0))
 have HCA:=Hid.intro hc
 have HRA:=Hid.intro hr
 have HK0:=Hid.intro K0
 have HT0:=Hid.intro T0
 have HT3:=Hid.intro T3
 have HT4:=Hid.intro T4
 obtain ⟨b0,b1,b2,b3,b4⟩:=fiveO T0
 clear hc hr K0 T0 T3 T4
 go_enter Try.func22,Try.ntmps22
 go_upto_region 1 with fail
 clear hW0
 have hl4:w.heap.size≤w.heap.size+1+1:=by omega
 have hl3:w.heap.size+1 < w.heap.size+1+1:=by omega
 generalize w.heap.size+1+1=bz at HT4 hsz hl4 hl3 ⊢
 generalize w.heap.size+1=bs at HT3 hl3 ⊢
 cases htk:tblB t with
 | false =>
  rw [htk] at KO
  have HE:Hid (edPut t row at' x=(zT,false)):=by show _=_;rw [edPut,if_neg (by rw [htk];simp)]
  clear htk
  go_wp2_with fail
  refine KO.out.mono ?_
  rintro e w1 ⟨rfl,hb1⟩
  replace HT4:=Hid.intro ((hb1.block _ (Array.getElem?_eq_some_iff.1 HT4.out).1).trans HT4.out)
  replace HK0:=Hid.intro (k_trans HK0.out hb1)
  obtain ⟨d0,d1,d2,d3,d4⟩:=fiveO HT4.out
  have fz:∀ p,w1.frozen? ⟨bz,p,none⟩=false:=fun p=>freeB HT4.out
  clear hb1 KO b0 b1 b2 b3 b4
  go_wp2
  exact bodyPost_ret (v:=.tuple #[.agg #[.slice none 0 0,.int .i64 0,.int .i64 0,.slice none 0 0,.int .i64 0],.bool false]) (by simp [results,Try.results22,go_sem,d0,d1,d2,d3,d4]) rfl ⟨none,0,none,0,0,0,by rw [HE.out];rfl,by rw [HE.out];exact ⟨[],rfl,⟨rfl,.inl ⟨rfl,rfl⟩⟩,⟨⟨rfl,.inl ⟨rfl,rfl⟩⟩,fun p hp=>absurd hp (by simp),.nil⟩⟩,k_set (k_set (k_set (k_set (k_set HK0.out hl4 _) hl4 _) hl4 _) hl4 _) hl4 _⟩
 | true =>
  rw [htk] at KO
  have HEd:Hid (edPut t row at' x=if (cB x && plB t row at')=true then (setRow t row.toNat (insC (t.rows.getD row.toNat dR).cells at'.toNat x),true) else (t,false)):=by show _=_;rw [edPut,if_pos htk]
  have HB5:=Hid.intro (tbl_bounds htk).2.2.2
  have hb8:=(tbl_bounds htk).2.2.1
  have HCp:=Hid.intro (fun W (h:Below w.heap.size w W)=>specl2Copy ac ar cc cr t htk W (HCA.out.kept h) (HRA.out.kept h))
  clear htk
  go_wp2_with fail
  refine KO.out.mono ?_
  rintro e w1 ⟨rfl,hb1⟩
  replace HT0:=Hid.intro ((hb1.block _ (Array.getElem?_eq_some_iff.1 HT0.out).1).trans HT0.out)
  replace HT3:=Hid.intro ((hb1.block _ (Array.getElem?_eq_some_iff.1 HT3.out).1).trans HT3.out)
  replace HT4:=Hid.intro ((hb1.block _ (Array.getElem?_eq_some_iff.1 HT4.out).1).trans HT4.out)
  replace HK0:=Hid.intro (k_trans HK0.out hb1)
  clear hb1 KO b0 b1 b2 b3 b4
  obtain ⟨b0,b1,b2,b3,b4⟩:=fiveO HT0.out
  have KC:=Hid.intro (HCp.out w1 HK0.out)
  have hsz1:bz < w1.heap.size:=(Array.getElem?_eq_some_iff.1 HT4.out).1
  go_wp2_with fail
  refine KC.out.mono ?_
  rintro e w2 ⟨a1,c1,a2,c2,rfl,⟨ur,hur,hOc,hOr⟩,hb2⟩
  replace HT0:=Hid.intro ((hb2.block _ (Array.getElem?_eq_some_iff.1 HT0.out).1).trans HT0.out)
  replace HT3:=Hid.intro ((hb2.block _ (Array.getElem?_eq_some_iff.1 HT3.out).1).trans HT3.out)
  replace HT4:=Hid.intro ((hb2.block _ (Array.getElem?_eq_some_iff.1 HT4.out).1).trans HT4.out)
  replace HK0:=Hid.intro (k_trans HK0.out hb2)
  have Hur:=Hid.intro hur
  have HOD:=Hid.intro ((OwnD.of hOc hOr).kept (k_alloc (Below.refl _ _) (.cells #[.slice a1 t.cols.length c1,.int .i64 t.head,.int .i64 t.foot,.slice a2 t.rows.length c2,.int .i64 t.gap] 56)))
  replace HT0:=Hid.intro (alloc_at (o:=(.cells #[.slice a1 t.cols.length c1,.int .i64 t.head,.int .i64 t.foot,.slice a2 t.rows.length c2,.int .i64 t.gap] 56)) HT0.out)
  replace HT3:=Hid.intro (alloc_at (o:=(.cells #[.slice a1 t.cols.length c1,.int .i64 t.head,.int .i64 t.foot,.slice a2 t.rows.length c2,.int .i64 t.gap] 56)) HT3.out)
  replace HT4:=Hid.intro (alloc_at (o:=(.cells #[.slice a1 t.cols.length c1,.int .i64 t.head,.int .i64 t.foot,.slice a2 t.rows.length c2,.int .i64 t.gap] 56)) HT4.out)
  replace HK0:=Hid.intro (k_alloc HK0.out (.cells #[.slice a1 t.cols.length c1,.int .i64 t.head,.int .i64 t.foot,.slice a2 t.rows.length c2,.int .i64 t.gap] 56))
  have HX:Hid ((w2.alloc (.cells #[.slice a1 t.cols.length c1,.int .i64 t.head,.int .i64 t.foot,.slice a2 t.rows.length c2,.int .i64 t.gap] 56)).heap[w2.heap.size]?=some (.cells #[.slice a1 t.cols.length c1,.int .i64 t.head,.int .i64 t.foot,.slice a2 t.rows.length c2,.int .i64 t.gap] 56)):=newestB _ _
  have hxW:w2.heap.size < (w2.alloc (.cells #[.slice a1 t.cols.length c1,.int .i64 t.head,.int .i64 t.foot,.slice a2 t.rows.length c2,.int .i64 t.gap] 56)).heap.size:=by simp
  have hbx:bz < w2.heap.size:=Nat.lt_of_lt_of_le hsz1 hb2.size
  clear hOc hOr hb2 hur KC HCp b0 b1 b2 b3 b4
  go_upto_region 4 with fail
  generalize w2.alloc (.cells #[.slice a1 t.cols.length c1,.int .i64 t.head,.int .i64 t.foot,.slice a2 t.rows.length c2,.int .i64 t.gap] 56)=W1 at HT0 HT3 HT4 HK0 HX HOD hxW ⊢
  generalize w2.heap.size=xb at HX HOD hxW hbx ⊢
  generalize w1.heap.size=bB at HOD hsz1
  obtain ⟨b0,b1,b2,b3,b4⟩:=fiveO HT0.out
  have hsz:=hsz1
  obtain ⟨_,_,_,hrlen⟩:=At.form HRA.out
  clear b0 b1 b2 b3 b4
  obtain ⟨z0,z1,z2,z3,z4,z5,z6,z7,z8,z9,z10⟩:=elevenO HT3.out
  have KX:=Hid.intro (specCellOk x.s x.c x.r x.a1 x.b1 x.a2 x.b2 x.a3 x.b3 x.a4 x.b4 W1 hxs)
  cases hcx:cB x with
  | false =>
   rw [show cellOkB x.s x.c x.r x.a1 x.b1 x.a2 x.b2 x.a3 x.b3 x.a4 x.b4=cB x from rfl,hcx] at KX
   have Hno:Hid ((cB x && plB t row at')=false):=by show _=_;rw [hcx,Bool.false_and]
   clear hcx
   go_wp2_with fail
   refine KX.out.mono ?_
   rintro e w3 ⟨rfl,hb3⟩
   replace HT0:=Hid.intro ((hb3.block _ (Array.getElem?_eq_some_iff.1 HT0.out).1).trans HT0.out)
   replace HT3:=Hid.intro ((hb3.block _ (Array.getElem?_eq_some_iff.1 HT3.out).1).trans HT3.out)
   replace HT4:=Hid.intro ((hb3.block _ (Array.getElem?_eq_some_iff.1 HT4.out).1).trans HT4.out)
   replace HX:=Hid.intro ((hb3.block _ (Array.getElem?_eq_some_iff.1 HX.out).1).trans HX.out)
   replace HK0:=Hid.intro (k_trans HK0.out hb3)
   replace HOD:=Hid.intro (HOD.out.kept hb3)
   clear hb3 KX z0 z1 z2 z3 z4 z5 z6 z7 z8 z9 z10
   have HE:Hid (edPut t row at' x=(t,false)):=by show _=_;rw [HEd.out,if_neg (by rw [Hno.out];simp)]
   clear HEd Hno
   obtain ⟨x0,x1,x2,x3,x4⟩:=fiveO HX.out
   obtain ⟨d0,d1,d2,d3,d4⟩:=fiveO HT4.out
   have fz:∀ p,w3.frozen? ⟨bz,p,none⟩=false:=fun p=>freeB HT4.out
   go_wp2
   exact bodyPost_ret (v:=.tuple #[.agg #[.slice a1 t.cols.length c1,.int .i64 t.head,.int .i64 t.foot,.slice a2 t.rows.length c2,.int .i64 t.gap],.bool false]) (by simp [results,Try.results22,go_sem,d0,d1,d2,d3,d4]) rfl ⟨a1,c1,a2,c2,_,_,by rw [HE.out],by rw [HE.out];exact OwnT.base (OwnT.since (own_lt HOD.out rfl Hur.out) (Since.set (Since.set (Since.set (Since.set (Since.set (Since.refl _ _) (p:=⟨bz,0,none⟩) hsz _) (p:=⟨bz,1,none⟩) hsz _) (p:=⟨bz,2,none⟩) hsz _) (p:=⟨bz,3,none⟩) hsz _) (p:=⟨bz,4,none⟩) hsz _)) (by omega),k_set (k_set (k_set (k_set (k_set HK0.out hl4 _) hl4 _) hl4 _) hl4 _) hl4 _⟩
  | true =>
   rw [show cellOkB x.s x.c x.r x.a1 x.b1 x.a2 x.b2 x.a3 x.b3 x.a4 x.b4=cB x from rfl,hcx] at KX
   have Hcx:=Hid.intro hcx
   clear hcx
   go_wp2_with fail
   refine KX.out.mono ?_
   rintro e w3 ⟨rfl,hb3⟩
   replace HT0:=Hid.intro ((hb3.block _ (Array.getElem?_eq_some_iff.1 HT0.out).1).trans HT0.out)
   replace HT3:=Hid.intro ((hb3.block _ (Array.getElem?_eq_some_iff.1 HT3.out).1).trans HT3.out)
   replace HT4:=Hid.intro ((hb3.block _ (Array.getElem?_eq_some_iff.1 HT4.out).1).trans HT4.out)
   replace HX:=Hid.intro ((hb3.block _ (Array.getElem?_eq_some_iff.1 HX.out).1).trans HX.out)
   replace HK0:=Hid.intro (k_trans HK0.out hb3)
   replace HOD:=Hid.intro (HOD.out.kept hb3)
   clear hb3 KX z0 z1 z2 z3 z4 z5 z6 z7 z8 z9 z10
   obtain ⟨b0,b1,b2,b3,b4⟩:=fiveO HT0.out
   cases hin:inB row 0 ((t.rows.length:Int) - 1) with
   | false =>
    have KI:=Hid.intro (fun W=>l1In_any row 0 ((t.rows.length:Int) - 1) W)
    rw [hin] at KI
    have Hno:Hid ((cB x && plB t row at')=false):=by
     show _=_
     have:plB t row at'=false:=by
      unfold plB cellsInV
      rw [hin]
      have:inB at' 0 (if false=true then ((t.rows.getD row.toNat dR).cells.length:Int) else -1)=false:=inB_false (by simp;omega)
      rw [this,Bool.false_and]
     rw [this,Bool.and_false]
    clear hin
    go_wp2_with fail
    refine (KI.out _).mono ?_
    rintro e w4 ⟨rfl,e4⟩
    subst e4
    clear KI b0 b1 b2 b3 b4
    have HE:Hid (edPut t row at' x=(t,false)):=by show _=_;rw [HEd.out,if_neg (by rw [Hno.out];simp)]
    clear HEd Hno
    obtain ⟨x0,x1,x2,x3,x4⟩:=fiveO HX.out
    obtain ⟨d0,d1,d2,d3,d4⟩:=fiveO HT4.out
    have fz:∀ p,w4.frozen? ⟨bz,p,none⟩=false:=fun p=>freeB HT4.out
    go_wp2
    exact bodyPost_ret (v:=.tuple #[.agg #[.slice a1 t.cols.length c1,.int .i64 t.head,.int .i64 t.foot,.slice a2 t.rows.length c2,.int .i64 t.gap],.bool false]) (by simp [results,Try.results22,go_sem,d0,d1,d2,d3,d4]) rfl ⟨a1,c1,a2,c2,_,_,by rw [HE.out],by rw [HE.out];exact OwnT.base (OwnT.since (own_lt HOD.out rfl Hur.out) (Since.set (Since.set (Since.set (Since.set (Since.set (Since.refl _ _) (p:=⟨bz,0,none⟩) hsz _) (p:=⟨bz,1,none⟩) hsz _) (p:=⟨bz,2,none⟩) hsz _) (p:=⟨bz,3,none⟩) hsz _) (p:=⟨bz,4,none⟩) hsz _)) (by omega),k_set (k_set (k_set (k_set (k_set HK0.out hl4 _) hl4 _) hl4 _) hl4 _) hl4 _⟩
   | true =>
    obtain ⟨r,rfl⟩:∃ r:Nat,row=r:=⟨row.toNat,by simp only [inB,decide_eq_true_eq] at hin;omega⟩
    have hrl:r < t.rows.length:=by simp only [inB,decide_eq_true_eq] at hin;omega
    have KI:=Hid.intro (fun W=>l1In_any (r:Int) 0 ((t.rows.length:Int) - 1) W)
    rw [hin] at KI
    obtain ⟨bq,oq,cr',e',hq1,hq2,hlq,u,hx0',hx1',hx'⟩:=At.get (HRA.out.kept HK0.out) hrl
    simp only [Value.slice.injEq,true_and] at e'
    obtain ⟨rfl,rfl⟩:=e'
    have hx2:=hx'
    unfold CellsAt At at hx2
    obtain ⟨au,cu,rfl,hul1,hul2,_⟩:=hx2
    have HPl:Hid (plB t (r:Int) at'=(inB at' 0 ((t.rows.getD r dR).cells.length:Int) && decide (((t.rows.getD r dR).cells.length:Int) < 5))):=by
     show _=_
     unfold plB cellsInV
     rw [if_pos hin,Int.toNat_natCast]
    have hm5:(t.rows.getD r dR).cells.length≤5:=HB5.out r hrl
    have KA:=Hid.intro (fun W=>l1In_any at' 0 ((t.rows.getD r dR).cells.length:Int) W)
    have HCl:=Hid.intro hx'
    have HmE0:=Hid.intro (rfl:(t.rows.getD r dR).cells.length=(t.rows.getD r dR).cells.length)
    generalize hmE:(t.rows.getD r dR).cells.length=m at KA hx0' hm5 HPl hul1
    have HmE:=Hid.intro hmE
    have HQ0:=Hid.intro hx0'
    clear hmE hin hx1' hx' HmE0
    unfold maxLen at hq2 hrlen hul2
    go_wp2_with fail
    refine (KI.out _).mono ?_
    rintro e w4 ⟨rfl,e4⟩
    subst e4
    clear KI
    cases hia:inB at' 0 (m:Int) with
    | false =>
     rw [hia] at KA
     have Hno:Hid ((cB x && plB t (r:Int) at')=false):=by show _=_;rw [HPl.out,hia,Bool.false_and,Bool.and_false]
     clear hia
     go_wp2_with fail
     refine (KA.out _).mono ?_
     rintro e w5 ⟨rfl,e5⟩
     subst e5
     clear KA b0 b1 b2 b3 b4 hx0'
     have HE:Hid (edPut t (r:Int) at' x=(t,false)):=by show _=_;rw [HEd.out,if_neg (by rw [Hno.out];simp)]
     clear HEd Hno
     obtain ⟨x0,x1,x2,x3,x4⟩:=fiveO HX.out
     obtain ⟨d0,d1,d2,d3,d4⟩:=fiveO HT4.out
     have fz:∀ p,w5.frozen? ⟨bz,p,none⟩=false:=fun p=>freeB HT4.out
     go_wp2
     exact bodyPost_ret (v:=.tuple #[.agg #[.slice a1 t.cols.length c1,.int .i64 t.head,.int .i64 t.foot,.slice a2 t.rows.length c2,.int .i64 t.gap],.bool false]) (by simp [results,Try.results22,go_sem,d0,d1,d2,d3,d4]) rfl ⟨a1,c1,a2,c2,_,_,by rw [HE.out],by rw [HE.out];exact OwnT.base (OwnT.since (own_lt HOD.out rfl Hur.out) (Since.set (Since.set (Since.set (Since.set (Since.set (Since.refl _ _) (p:=⟨bz,0,none⟩) hsz _) (p:=⟨bz,1,none⟩) hsz _) (p:=⟨bz,2,none⟩) hsz _) (p:=⟨bz,3,none⟩) hsz _) (p:=⟨bz,4,none⟩) hsz _)) (by omega),k_set (k_set (k_set (k_set (k_set HK0.out hl4 _) hl4 _) hl4 _) hl4 _) hl4 _⟩
    | true =>
     rw [hia] at KA
     by_cases h5:m=5
     ·have h5b:((m:Int) == 5)=true:=by simp;omega
      have Hno:Hid ((cB x && plB t (r:Int) at')=false):=by show _=_;rw [HPl.out,decide_eq_false (by omega),Bool.and_false,Bool.and_false]
      clear hia h5
      go_wp2_with fail
      refine (KA.out _).mono ?_
      rintro e w5 ⟨rfl,e5⟩
      subst e5
      clear KA
      have HE:Hid (edPut t (r:Int) at' x=(t,false)):=by show _=_;rw [HEd.out,if_neg (by rw [Hno.out];simp)]
      clear HEd Hno HQ0
      obtain ⟨x0,x1,x2,x3,x4⟩:=fiveO HX.out
      obtain ⟨d0,d1,d2,d3,d4⟩:=fiveO HT4.out
      have fz:∀ p,w5.frozen? ⟨bz,p,none⟩=false:=fun p=>freeB HT4.out
      go_wp2
      exact bodyPost_ret (v:=.tuple #[.agg #[.slice a1 t.cols.length c1,.int .i64 t.head,.int .i64 t.foot,.slice a2 t.rows.length c2,.int .i64 t.gap],.bool false]) (by simp [results,Try.results22,go_sem,d0,d1,d2,d3,d4]) rfl ⟨a1,c1,a2,c2,_,_,by rw [HE.out],by rw [HE.out];exact OwnT.base (OwnT.since (own_lt HOD.out rfl Hur.out) (Since.set (Since.set (Since.set (Since.set (Since.set (Since.refl _ _) (p:=⟨bz,0,none⟩) hsz _) (p:=⟨bz,1,none⟩) hsz _) (p:=⟨bz,2,none⟩) hsz _) (p:=⟨bz,3,none⟩) hsz _) (p:=⟨bz,4,none⟩) hsz _)) (by omega),k_set (k_set (k_set (k_set (k_set HK0.out hl4 _) hl4 _) hl4 _) hl4 _) hl4 _⟩
     ·have h5b:((m:Int) == 5)=false:=by simp;omega
      have HE:Hid (edPut t (r:Int) at' x=(setRow t (r:Int).toNat (insC (t.rows.getD (r:Int).toNat dR).cells at'.toNat x),true)):=by
       show _=_
       rw [HEd.out,if_pos (by rw [Hcx.out,HPl.out,hia,decide_eq_true (by omega)];rfl)]
      obtain ⟨a,rfl⟩:∃ a:Nat,at'=a:=⟨at'.toNat,by simp only [inB,decide_eq_true_eq] at hia;omega⟩
      have ham:a≤m:=by simp only [inB,decide_eq_true_eq] at hia;omega
      clear hia HEd HPl h5
      go_wp2_with fail
      refine (KA.out _).mono ?_
      rintro e w5 ⟨rfl,e5⟩
      subst e5
      clear KA
      rw [Int.toNat_natCast,Int.toNat_natCast] at HE
      have hur:=Hur.out
      have hul:ur.length=t.rows.length:=by rw [← hur,List.length_map]
      have hge:ur[r]?=some (ur[r]'(by omega)):=List.getElem?_eq_getElem (by omega)
      have hpr:(ur[r]'(by omega)).2=t.rows.getD r dR:=by rw [← map_snd_get hge,hur]
      generalize hpE:ur[r]'(by omega)=p at hge hpr
      clear hpE
      rw [← hpr] at HE HCl HmE
      obtain ⟨g,cg,arr,ev,hg1,hg2,hgl,hgB,harr,hasz,ha0,ha1⟩:=own_get HOD.out.2.1 hge
      rw [hul] at ev hg1
      simp only [Value.slice.injEq,true_and] at ev
      obtain ⟨rfl,rfl⟩:=ev
      have hmE:=HmE.out
      have hgz:g ≠ bz:=fun e=>by subst e;rw [HT4.out] at harr;simp at harr
      have hgx:g ≠ xb:=fun e=>by subst e;rw [HX.out] at harr;simp at harr
      have hgw:w.heap.size≤g:=by
       have:=(row_lt HOD.out.2.1.own (b:=g) rfl).1
       omega
      have hglw:g < w5.heap.size:=(Array.getElem?_eq_some_iff.1 harr).1
      have hxl:xb < w5.heap.size:=(Array.getElem?_eq_some_iff.1 HX.out).1
      have hcl3:bs < w5.heap.size:=(Array.getElem?_eq_some_iff.1 HT3.out).1
      have hBl:bB≤w5.heap.size:=by have:=hgB;omega
      have HOF:Hid (∀ W9 u,Below w5.heap.size w5 W9→OwnC W9 w5.heap.size u (insC p.2.cells a x)→OwnT (W9.setCell ⟨g,r * 2,none⟩ u) bB (.slice a1 t.cols.length c1) (.slice (some ⟨g,0,none⟩) t.rows.length c2) (setRow t r (insC p.2.cells a x))):=fun W9 u hk hc=>by
       have h9:=own_fresh HOD.out (cg:=c2) (by rw [hul]) hge hk hBl hc
       exact ⟨ur.set r (u,⟨insC p.2.cells a x,p.2.whole⟩),by rw [map_set_snd,hur,setRow,hpr],h9.1,by rw [← hul] at *;exact h9.2⟩
      have hm8:m≤5:=hm5
      have HS:=Hid.intro (fun l h (hl:l≤h) (hh:h≤m)=>src_cut HCl.out rfl (by rw [hmE];exact hul1) l h hl (by rw [hmE];exact hh))
      have HLt:Hid (((p.2.cells.take a).flatMap cellVs).length=a * 11):=by show _=_;rw [flat_len cellVs 11 (fun _=>rfl),List.length_take,Nat.min_eq_left (by omega)]
      have HLd:Hid (((p.2.cells.drop a).flatMap cellVs).length=(m - a) * 11):=by show _=_;rw [flat_len cellVs 11 (fun _=>rfl),List.length_drop,hmE]
      have HEr:Hid (∀ {w':World} {B:Nat} {v:Value},w'.ownsRow B 62 11 v (a+1+(m - a)) ((p.2.cells.take a).flatMap cellVs ++ cellVs x ++ (p.2.cells.drop a).flatMap cellVs)→OwnC w' B v (insC p.2.cells a x)):=fun {w' B v} ho=>by
       have hl:(insC p.2.cells a x).length=a+1+(m - a):=by rw [insC_len];omega
       unfold OwnC
       rw [hl,insC,List.flatMap_append,List.flatMap_cons,← List.append_assoc]
       exact ho
      have HS1:=Hid.intro (fun A h=>(HS.out 0 a (Nat.zero_le _) ham A h))
      have HS2:=Hid.intro (fun A h=>(HS.out a m ham (Nat.le_refl _) A h))
      rw [Nat.sub_zero,List.drop_zero] at HS1
      rw [← hmE,List.take_length,hmE] at HS2
      obtain ⟨i3,hi3,hw0,hw1,hw2⟩:=info_parts infoCelln
      have hmx:Try.prog.follows .mixedOrders=true:=by kernel_rfl
      have HG:=Hid.intro harr
      have hrs:r * 2 < arr.size:=by rw [hasz];omega
      unfold maxLen at hg2
      have hac0:a≤cu:=by omega
      clear HCl hmE HmE harr ha0 ha1 hasz hge hpr hur hul HOD HS
      generalize p.2.cells=cs at HOF HS1 HS2 HLt HLd HEr HE
      go_upto_region 7 with fail
      clear b0 b1 b2 b3 b4 hx0'
      refine wp_region_inv2 (fun L act W=>∃ v59 v60 v61 v62 v63 v64 v65 v66 v67 v68 v69 v70 v71 v72 v73 v74 v75:Value,act=⟨#[.agg #[.slice ac t.cols.length cc,.int .i64 t.head,.int .i64 t.foot,.slice (some ⟨bq,oq,none⟩) t.rows.length cr,.int .i64 t.gap],.int .i64 r,.int .i64 a,.agg #[.string x.s,.int .i64 x.c,.int .i64 x.r,.int .i64 x.a1,.int .i64 x.b1,.int .i64 x.a2,.int .i64 x.b2,.int .i64 x.a3,.int .i64 x.b3,.int .i64 x.a4,.int .i64 x.b4],.pointer (some ⟨w.heap.size,0,none⟩),undef,undef,.pointer (some ⟨bs,0,none⟩),.pointer (some ⟨bz,0,none⟩),.bool false,.pointer (some ⟨xb,0,none⟩),.slice au m cu,.agg #[.slice ac t.cols.length cc,.int .i64 t.head,.int .i64 t.foot,.slice (some ⟨bq,oq,none⟩) t.rows.length cr,.int .i64 t.gap],.bool true,.bool false,undef,.agg #[.slice ac t.cols.length cc,.int .i64 t.head,.int .i64 t.foot,.slice (some ⟨bq,oq,none⟩) t.rows.length cr,.int .i64 t.gap],.agg #[.slice a1 t.cols.length c1,.int .i64 t.head,.int .i64 t.foot,.slice (some ⟨g,0,none⟩) t.rows.length c2,.int .i64 t.gap],.agg #[.string x.s,.int .i64 x.c,.int .i64 x.r,.int .i64 x.a1,.int .i64 x.b1,.int .i64 x.a2,.int .i64 x.b2,.int .i64 x.a3,.int .i64 x.b3,.int .i64 x.a4,.int .i64 x.b4],.bool true,.bool false,.bool false,.int .i64 r,.pointer (some ⟨w.heap.size,3,none⟩),.slice (some ⟨bq,oq,none⟩) t.rows.length cr,.int .i64 t.rows.length,.int .i64 ((t.rows.length:Int) - 1),.bool true,.bool false,.bool false,.bool false,.int .i64 a,.pointer (some ⟨w.heap.size,3,none⟩),.slice (some ⟨bq,oq,none⟩) t.rows.length cr,.int .i64 r,.pointer (some ⟨bq,oq+r * 2,none⟩),.pointer (some ⟨bq,oq+r * 2,none⟩),.slice au m cu,.int .i64 m,.bool true,.bool false,.bool false,.bool false,.pointer (some ⟨w.heap.size,3,none⟩),.slice (some ⟨bq,oq,none⟩) t.rows.length cr,.int .i64 r,.pointer (some ⟨bq,oq+r * 2,none⟩),.pointer (some ⟨bq,oq+r * 2,none⟩),.slice au m cu,.int .i64 m,.bool false,.bool false,undef,.pointer (some ⟨w.heap.size,3,none⟩),.slice (some ⟨bq,oq,none⟩) t.rows.length cr,.int .i64 r,.pointer (some ⟨bq,oq+r * 2,none⟩),.pointer (some ⟨bq,oq+r * 2,none⟩),.slice au m cu,v59,v60,v61,v62,v63,v64,v65,v66,v67,v68,v69,v70,v71,v72,v73,v74,v75,undef],[]⟩∧PsJ xb g r a t.rows.length c2 m cu au cs x w5 L W v59 v60 v61 v62 v63 v64 v65 v66 v67 v68 v69 v70 v71 v72 v73 v74 v75) hmx (by kernel_rfl) ?hs ?hd ?h0
      case h0=>exact ⟨_,_,_,_,_,_,_,_,_,_,_,_,_,_,_,_,_,rfl,⟨(fun h=>by cases h),(fun h=>by cases h),(fun h=>by cases h),(fun h=>by cases h),(fun h=>by cases h),(fun h=>by cases h),(fun h=>by cases h),(fun h=>by cases h),(fun h=>by cases h),(fun h=>by cases h),(fun h=>by cases h),(fun h=>by cases h),(fun h=>by cases h),(fun h=>by cases h),(fun h=>by cases h),(fun h=>by cases h),(fun h=>by cases h),(fun h=>by cases h),(fun _=>k_drew (Below.refl _ _)),(fun h=>by cases h)⟩⟩
      case hd =>
       intro L act W hJ hall
       obtain ⟨v59,v60,v61,v62,v63,v64,v65,v66,v67,v68,v69,v70,v71,v72,v73,v74,v75,ha,J⟩:=hJ
       subst ha
       obtain ⟨a9,c9,W9,hB9,hC9,hW9⟩:=J.f17 (hall 17 (by decide))
       clear J hall
       have HOw:=Hid.intro (HOF.out W9 _ hB9 hC9)
       have HK4:=Hid.intro ((k_trans HK0.out hB9).setCell (p:=⟨g,r * 2,none⟩) hgw (.slice a9 (a+1+(m - a)) c9))
       have HZ4:=Hid.intro ((Below.heap_setCell W9 ⟨g,r * 2,none⟩ (.slice a9 (a+1+(m - a)) c9) bz (by dsimp only;exact fun e=>hgz e.symm)).trans ((hB9.block bz (Array.getElem?_eq_some_iff.1 HT4.out).1).trans HT4.out))
       have HX4:=Hid.intro ((Below.heap_setCell W9 ⟨g,r * 2,none⟩ (.slice a9 (a+1+(m - a)) c9) xb (by dsimp only;exact fun e=>hgx e.symm)).trans ((hB9.block xb hxl).trans HX.out))
       rw [← hW9] at HOw HK4 HZ4 HX4
       clear hB9 hC9 hW9
       obtain ⟨x0,x1,x2,x3,x4⟩:=fiveO HX4.out
       obtain ⟨d0,d1,d2,d3,d4⟩:=fiveO HZ4.out
       have fz:∀ p,W.frozen? ⟨bz,p,none⟩=false:=fun p=>freeB HZ4.out
       go_wp2
       exact bodyPost_ret (v:=.tuple #[.agg #[.slice a1 t.cols.length c1,.int .i64 t.head,.int .i64 t.foot,.slice (some ⟨g,0,none⟩) t.rows.length c2,.int .i64 t.gap],.bool true]) (by simp [results,Try.results22,go_sem,d0,d1,d2,d3,d4]) rfl ⟨a1,c1,some ⟨g,0,none⟩,c2,_,_,by rw [HE.out];rfl,by rw [HE.out];exact OwnT.base (OwnT.since HOw.out (Since.set (Since.set (Since.set (Since.set (Since.set (Since.refl _ _) (p:=⟨bz,0,none⟩) hsz _) (p:=⟨bz,1,none⟩) hsz _) (p:=⟨bz,2,none⟩) hsz _) (p:=⟨bz,3,none⟩) hsz _) (p:=⟨bz,4,none⟩) hsz _)) (by omega),k_set (k_set (k_set (k_set (k_set HK4.out hl4 _) hl4 _) hl4 _) hl4 _) hl4 _⟩
      case hs =>
       intro L act W i o hJ hcl ho hLi haft K hK
       obtain ⟨v59,v60,v61,v62,v63,v64,v65,v66,v67,v68,v69,v70,v71,v72,v73,v74,v75,ha,J⟩:=hJ
       subst ha
       have hi':i < 18:=by
        have:=(Array.getElem?_eq_some_iff.1 ho).1
        simpa using this
       rcases (by omega:i=0∨i=1∨i=2∨i=3∨i=4∨i=5∨i=6∨i=7∨i=8∨i=9∨i=10∨i=11∨i=12∨i=13∨i=14∨i=15∨i=16∨i=17) with rfl | rfl | rfl | rfl | rfl | rfl | rfl | rfl | rfl | rfl | rfl | rfl | rfl | rfl | rfl | rfl | rfl | rfl
       all_goals
        simp only [List.getElem?_toArray,List.getElem?_cons_zero,List.getElem?_cons_succ,Option.some.injEq] at ho
        subst ho
        clear hi'
       ·skip
        have hN:=(hcl 17 16 (by kernel_rfl) (hcl 16 15 (by kernel_rfl) (hcl 15 1 (by kernel_rfl) (hcl 1 0 (by kernel_rfl) hLi))))
        have hB:=J.b hN
        go_simp
        exact hK _ _ ⟨_,_,_,_,_,_,_,_,_,_,_,_,_,_,_,_,_,rfl,⟨(fun _=>rfl),(fun h=>absurd (((hcl 1 0 (by kernel_rfl) hLi)).symm.trans (un h)) (by simp)),(fun h=>J.f2 (un h)),(fun h h2=>(J.f3 (un h) (un h2))),(fun h=>J.f4 (un h)),(fun h=>J.f5 (un h)),(fun h=>J.f6 (un h)),(fun h h2=>(J.f7 (un h) (un h2))),(fun h=>J.f8 (un h)),(fun h h2=>(J.f9 (un h) (un h2))),(fun h h2=>(J.f10 (un h) (un h2))),(fun h=>J.f11 (un h)),(fun h=>J.f12 (un h)),(fun h=>J.f13 (un h)),(fun h h2=>(J.f14 (un h) (un h2))),(fun h=>absurd (((hcl 15 1 (by kernel_rfl) (hcl 1 0 (by kernel_rfl) hLi))).symm.trans (un h)) (by simp)),(fun h=>absurd (((hcl 16 15 (by kernel_rfl) (hcl 15 1 (by kernel_rfl) (hcl 1 0 (by kernel_rfl) hLi)))).symm.trans (un h)) (by simp)),(fun h=>absurd (((hcl 17 16 (by kernel_rfl) (hcl 16 15 (by kernel_rfl) (hcl 15 1 (by kernel_rfl) (hcl 1 0 (by kernel_rfl) hLi))))).symm.trans (un h)) (by simp)),(fun _=>hB),J.ne⟩⟩
       ·skip
        have hN:=(hcl 17 16 (by kernel_rfl) (hcl 16 15 (by kernel_rfl) (hcl 15 1 (by kernel_rfl) hLi)))
        have hB:=J.b hN
        obtain rfl:=J.f0 (haft ⟨0,.data⟩ (by simp) rfl)
        obtain ⟨q0,q1,q2,q3,q4⟩:=fiveO ((hB.block _ hxl).trans HX.out)
        go_simp
        exact hK _ _ ⟨_,_,_,_,_,_,_,_,_,_,_,_,_,_,_,_,_,rfl,⟨(fun h=>J.f0 (un h)),(fun _=>rfl),(fun h=>J.f2 (un h)),(fun h h2=>(J.f3 (un h) (un h2))),(fun h=>J.f4 (un h)),(fun h=>J.f5 (un h)),(fun h=>J.f6 (un h)),(fun h h2=>(J.f7 (un h) (un h2))),(fun h=>J.f8 (un h)),(fun h h2=>(J.f9 (un h) (un h2))),(fun h h2=>(J.f10 (un h) (un h2))),(fun h=>J.f11 (un h)),(fun h=>J.f12 (un h)),(fun h=>J.f13 (un h)),(fun h h2=>(J.f14 (un h) (un h2))),(fun h=>absurd (((hcl 15 1 (by kernel_rfl) hLi)).symm.trans (un h)) (by simp)),(fun h=>absurd (((hcl 16 15 (by kernel_rfl) (hcl 15 1 (by kernel_rfl) hLi))).symm.trans (un h)) (by simp)),(fun h=>absurd (((hcl 17 16 (by kernel_rfl) (hcl 16 15 (by kernel_rfl) (hcl 15 1 (by kernel_rfl) hLi)))).symm.trans (un h)) (by simp)),(fun _=>hB),J.ne⟩⟩
       ·skip
        have hN:=(hcl 17 16 (by kernel_rfl) (hcl 16 15 (by kernel_rfl) (hcl 15 2 (by kernel_rfl) hLi)))
        have hB:=J.b hN
        go_simp
        exact hK _ _ ⟨_,_,_,_,_,_,_,_,_,_,_,_,_,_,_,_,_,rfl,⟨(fun h=>J.f0 (un h)),(fun h=>J.f1 (un h)),(fun _=>rfl),(fun h h2=>(J.f3 (un h) (un h2))),(fun h=>J.f4 (un h)),(fun h=>J.f5 (un h)),(fun h=>J.f6 (un h)),(fun h h2=>(J.f7 (un h) (un h2))),(fun h=>J.f8 (un h)),(fun h h2=>(J.f9 (un h) (un h2))),(fun h h2=>(J.f10 (un h) (un h2))),(fun h=>J.f11 (un h)),(fun h=>J.f12 (un h)),(fun h=>J.f13 (un h)),(fun h h2=>(J.f14 (un h) (un h2))),(fun h=>absurd (((hcl 15 2 (by kernel_rfl) hLi)).symm.trans (un h)) (by simp)),(fun h=>absurd (((hcl 16 15 (by kernel_rfl) (hcl 15 2 (by kernel_rfl) hLi))).symm.trans (un h)) (by simp)),(fun h=>absurd (((hcl 17 16 (by kernel_rfl) (hcl 16 15 (by kernel_rfl) (hcl 15 2 (by kernel_rfl) hLi)))).symm.trans (un h)) (by simp)),(fun _=>hB),J.ne⟩⟩
       ·skip
        have hN:=(hcl 17 14 (by kernel_rfl) (hcl 14 10 (by kernel_rfl) (hcl 10 7 (by kernel_rfl) (hcl 7 3 (by kernel_rfl) hLi))))
        have hB:=J.b hN
        go_simp
        exact hK _ _ ⟨_,_,_,_,_,_,_,_,_,_,_,_,_,_,_,_,_,rfl,⟨(fun h=>J.f0 (un h)),(fun h=>J.f1 (un h)),(fun h=>J.f2 (un h)),(fun _ _=>World.ownsRow_made W #[] 0 hB.size (Nat.zero_le _) (by simp)),(fun h=>J.f4 (un h)),(fun h=>J.f5 (un h)),(fun h=>J.f6 (un h)),(fun h _=>absurd (((hcl 7 3 (by kernel_rfl) hLi)).symm.trans (un h)) (by simp)),(fun h=>J.f8 (un h)),(fun h h2=>((J.f9 (un h) (un h2))).elim fun vb h=>⟨vb,h.1,alloc_at h.2.1,h.2.2⟩),(fun h _=>absurd (((hcl 10 7 (by kernel_rfl) (hcl 7 3 (by kernel_rfl) hLi))).symm.trans (un h)) (by simp)),(fun h=>J.f11 (un h)),(fun h=>J.f12 (un h)),(fun h=>J.f13 (un h)),(fun h _=>absurd (((hcl 14 10 (by kernel_rfl) (hcl 10 7 (by kernel_rfl) (hcl 7 3 (by kernel_rfl) hLi)))).symm.trans (un h)) (by simp)),(fun h=>J.f15 (un h)),(fun h=>J.f16 (un h)),(fun h=>absurd (((hcl 17 14 (by kernel_rfl) (hcl 14 10 (by kernel_rfl) (hcl 10 7 (by kernel_rfl) (hcl 7 3 (by kernel_rfl) hLi))))).symm.trans (un h)) (by simp)),(fun _=>k_alloc hB _),(fun _ h9 _ vb e hb=>by obtain ⟨vb',e',h1,h2⟩:=J.f9 (un h9) (hcl 10 7 (by kernel_rfl) (hcl 7 3 (by kernel_rfl) hLi));rw [e'] at e;simp only [Value.slice.injEq,Option.some.injEq,Addr.mk.injEq,and_true] at e;have h4:=(Array.getElem?_eq_some_iff.1 h1).1;have h5:W.heap.size=vb:=Option.some.inj hb;omega)⟩⟩
       ·skip
        have hN:=(hcl 17 14 (by kernel_rfl) (hcl 14 10 (by kernel_rfl) (hcl 10 7 (by kernel_rfl) (hcl 7 6 (by kernel_rfl) (hcl 6 4 (by kernel_rfl) hLi)))))
        have hB:=J.b hN
        go_simp
        exact hK _ _ ⟨_,_,_,_,_,_,_,_,_,_,_,_,_,_,_,_,_,rfl,⟨(fun h=>J.f0 (un h)),(fun h=>J.f1 (un h)),(fun h=>J.f2 (un h)),(fun h h2=>(J.f3 (un h) (un h2))),(fun _=>rfl),(fun h=>J.f5 (un h)),(fun h=>absurd (((hcl 6 4 (by kernel_rfl) hLi)).symm.trans (un h)) (by simp)),(fun h _=>absurd (((hcl 7 6 (by kernel_rfl) (hcl 6 4 (by kernel_rfl) hLi))).symm.trans (un h)) (by simp)),(fun h=>J.f8 (un h)),(fun h h2=>(J.f9 (un h) (un h2))),(fun h _=>absurd (((hcl 10 7 (by kernel_rfl) (hcl 7 6 (by kernel_rfl) (hcl 6 4 (by kernel_rfl) hLi)))).symm.trans (un h)) (by simp)),(fun h=>J.f11 (un h)),(fun h=>J.f12 (un h)),(fun h=>J.f13 (un h)),(fun h _=>absurd (((hcl 14 10 (by kernel_rfl) (hcl 10 7 (by kernel_rfl) (hcl 7 6 (by kernel_rfl) (hcl 6 4 (by kernel_rfl) hLi))))).symm.trans (un h)) (by simp)),(fun h=>J.f15 (un h)),(fun h=>J.f16 (un h)),(fun h=>absurd (((hcl 17 14 (by kernel_rfl) (hcl 14 10 (by kernel_rfl) (hcl 10 7 (by kernel_rfl) (hcl 7 6 (by kernel_rfl) (hcl 6 4 (by kernel_rfl) hLi)))))).symm.trans (un h)) (by simp)),(fun _=>hB),J.ne⟩⟩
       ·skip
        have hN:=(hcl 17 14 (by kernel_rfl) (hcl 14 10 (by kernel_rfl) (hcl 10 7 (by kernel_rfl) (hcl 7 6 (by kernel_rfl) (hcl 6 5 (by kernel_rfl) hLi)))))
        have hB:=J.b hN
        go_simp
        exact hK _ _ ⟨_,_,_,_,_,_,_,_,_,_,_,_,_,_,_,_,_,rfl,⟨(fun h=>J.f0 (un h)),(fun h=>J.f1 (un h)),(fun h=>J.f2 (un h)),(fun h h2=>(J.f3 (un h) (un h2))),(fun h=>J.f4 (un h)),(fun _=>rfl),(fun h=>absurd (((hcl 6 5 (by kernel_rfl) hLi)).symm.trans (un h)) (by simp)),(fun h _=>absurd (((hcl 7 6 (by kernel_rfl) (hcl 6 5 (by kernel_rfl) hLi))).symm.trans (un h)) (by simp)),(fun h=>J.f8 (un h)),(fun h h2=>(J.f9 (un h) (un h2))),(fun h _=>absurd (((hcl 10 7 (by kernel_rfl) (hcl 7 6 (by kernel_rfl) (hcl 6 5 (by kernel_rfl) hLi)))).symm.trans (un h)) (by simp)),(fun h=>J.f11 (un h)),(fun h=>J.f12 (un h)),(fun h=>J.f13 (un h)),(fun h _=>absurd (((hcl 14 10 (by kernel_rfl) (hcl 10 7 (by kernel_rfl) (hcl 7 6 (by kernel_rfl) (hcl 6 5 (by kernel_rfl) hLi))))).symm.trans (un h)) (by simp)),(fun h=>J.f15 (un h)),(fun h=>J.f16 (un h)),(fun h=>absurd (((hcl 17 14 (by kernel_rfl) (hcl 14 10 (by kernel_rfl) (hcl 10 7 (by kernel_rfl) (hcl 7 6 (by kernel_rfl) (hcl 6 5 (by kernel_rfl) hLi)))))).symm.trans (un h)) (by simp)),(fun _=>hB),J.ne⟩⟩
       ·skip
        have hN:=(hcl 17 14 (by kernel_rfl) (hcl 14 10 (by kernel_rfl) (hcl 10 7 (by kernel_rfl) (hcl 7 6 (by kernel_rfl) hLi))))
        have hB:=J.b hN
        obtain rfl:=J.f4 (haft ⟨4,.data⟩ (by simp) rfl)
        obtain rfl:=J.f5 (haft ⟨5,.data⟩ (by simp) rfl)
        go_simp
        exact hK _ _ ⟨_,_,_,_,_,_,_,_,_,_,_,_,_,_,_,_,_,rfl,⟨(fun h=>J.f0 (un h)),(fun h=>J.f1 (un h)),(fun h=>J.f2 (un h)),(fun h h2=>(J.f3 (un h) (un h2))),(fun h=>J.f4 (un h)),(fun h=>J.f5 (un h)),(fun _=>⟨_,_,rfl,HS1.out _ (by first | rfl | (rcases au with _ | q <;> simp [add_nought]))⟩),(fun h _=>absurd (((hcl 7 6 (by kernel_rfl) hLi)).symm.trans (un h)) (by simp)),(fun h=>J.f8 (un h)),(fun h h2=>(J.f9 (un h) (un h2))),(fun h _=>absurd (((hcl 10 7 (by kernel_rfl) (hcl 7 6 (by kernel_rfl) hLi))).symm.trans (un h)) (by simp)),(fun h=>J.f11 (un h)),(fun h=>J.f12 (un h)),(fun h=>J.f13 (un h)),(fun h _=>absurd (((hcl 14 10 (by kernel_rfl) (hcl 10 7 (by kernel_rfl) (hcl 7 6 (by kernel_rfl) hLi)))).symm.trans (un h)) (by simp)),(fun h=>J.f15 (un h)),(fun h=>J.f16 (un h)),(fun h=>absurd (((hcl 17 14 (by kernel_rfl) (hcl 14 10 (by kernel_rfl) (hcl 10 7 (by kernel_rfl) (hcl 7 6 (by kernel_rfl) hLi))))).symm.trans (un h)) (by simp)),(fun _=>hB),J.ne⟩⟩
       ·skip
        have hN:=(hcl 17 14 (by kernel_rfl) (hcl 14 10 (by kernel_rfl) (hcl 10 7 (by kernel_rfl) hLi)))
        have hB:=J.b hN
        have h3:L 3=true:=(haft ⟨3,.data⟩ (by simp) rfl)
        have hO:=J.f3 h3 hLi
        obtain ⟨A,c,rfl,hS⟩:=J.f6 (haft ⟨6,.data⟩ (by simp) rfl)
        rw [if_pos (by rfl)]
        refine wp_append_src _ (.tmp 62) (.tmp 65) 86 rfl w5.heap.size 62 i3 _ 11 96 Try.underlying86 hi3 hw0 hw1 hw2 rfl (by decide) _ _ _ rfl hO A a c ((cs.take a).flatMap cellVs) rfl hS.1 HLt.out (fun q hq=>hS.2 W hB q hq) (one_flat _) (by unfold maxLen;omega) (by omega) hB.size ?_
        intro v' w5' hown' hgrow'
        rw [Nat.zero_add,List.nil_append] at hown'
        exact hK _ _ ⟨_,_,_,_,_,_,_,_,_,_,_,_,_,_,_,_,_,rfl,⟨(fun h=>J.f0 (un h)),(fun h=>J.f1 (un h)),(fun h=>J.f2 (un h)),(fun _ h=>absurd (h.symm.trans upd_self) (by simp)),(fun h=>J.f4 (un h)),(fun h=>J.f5 (un h)),(fun h=>J.f6 (un h)),(fun _ _=>hown'),(fun h=>J.f8 (un h)),(fun h h2=>((J.f9 (un h) (un h2))).elim fun vb h5=>⟨vb,h5.1,(hgrow'.block vb (Array.getElem?_eq_some_iff.1 h5.2.1).1 (fun e2=>(J.ne h3 (un h) hLi vb h5.1) e2.symm)).trans h5.2.1,h5.2.2⟩),(fun h _=>absurd (((hcl 10 7 (by kernel_rfl) hLi)).symm.trans (un h)) (by simp)),(fun h=>J.f11 (un h)),(fun h=>J.f12 (un h)),(fun h=>J.f13 (un h)),(fun h _=>absurd (((hcl 14 10 (by kernel_rfl) (hcl 10 7 (by kernel_rfl) hLi))).symm.trans (un h)) (by simp)),(fun h=>J.f15 (un h)),(fun h=>J.f16 (un h)),(fun h=>absurd (((hcl 17 14 (by kernel_rfl) (hcl 14 10 (by kernel_rfl) (hcl 10 7 (by kernel_rfl) hLi)))).symm.trans (un h)) (by simp)),(fun _=>hB.grown hgrow' hB.size (fun q hq=>(hO.lt q hq).1)),(fun _ _ h=>absurd (h.symm.trans upd_self) (by simp))⟩⟩
       ·skip
        have hN:=(hcl 17 14 (by kernel_rfl) (hcl 14 10 (by kernel_rfl) (hcl 10 9 (by kernel_rfl) (hcl 9 8 (by kernel_rfl) hLi))))
        have hB:=J.b hN
        obtain ⟨q0,q1,q2,q3,q4,q5,q6,q7,q8,q9,q10⟩:=elevenO ((hB.block _ hcl3).trans HT3.out)
        go_simp
        exact hK _ _ ⟨_,_,_,_,_,_,_,_,_,_,_,_,_,_,_,_,_,rfl,⟨(fun h=>J.f0 (un h)),(fun h=>J.f1 (un h)),(fun h=>J.f2 (un h)),(fun h h2=>(J.f3 (un h) (un h2))),(fun h=>J.f4 (un h)),(fun h=>J.f5 (un h)),(fun h=>J.f6 (un h)),(fun h h2=>(J.f7 (un h) (un h2))),(fun _=>rfl),(fun h _=>absurd (((hcl 9 8 (by kernel_rfl) hLi)).symm.trans (un h)) (by simp)),(fun h _=>absurd (((hcl 10 9 (by kernel_rfl) (hcl 9 8 (by kernel_rfl) hLi))).symm.trans (un h)) (by simp)),(fun h=>J.f11 (un h)),(fun h=>J.f12 (un h)),(fun h=>J.f13 (un h)),(fun h _=>absurd (((hcl 14 10 (by kernel_rfl) (hcl 10 9 (by kernel_rfl) (hcl 9 8 (by kernel_rfl) hLi)))).symm.trans (un h)) (by simp)),(fun h=>J.f15 (un h)),(fun h=>J.f16 (un h)),(fun h=>absurd (((hcl 17 14 (by kernel_rfl) (hcl 14 10 (by kernel_rfl) (hcl 10 9 (by kernel_rfl) (hcl 9 8 (by kernel_rfl) hLi))))).symm.trans (un h)) (by simp)),(fun _=>hB),J.ne⟩⟩
       ·skip
        have hN:=(hcl 17 14 (by kernel_rfl) (hcl 14 10 (by kernel_rfl) (hcl 10 9 (by kernel_rfl) hLi)))
        have hB:=J.b hN
        obtain rfl:=J.f8 (haft ⟨8,.data⟩ (by simp) rfl)
        go_simp
        exact hK _ _ ⟨_,_,_,_,_,_,_,_,_,_,_,_,_,_,_,_,_,rfl,⟨(fun h=>J.f0 (un h)),(fun h=>J.f1 (un h)),(fun h=>J.f2 (un h)),(fun h h2=>row_kept9 (J.f3 (un h) (un h2)) (k_alloc (Below.refl _ _) _)),(fun h=>J.f4 (un h)),(fun h=>J.f5 (un h)),(fun h=>J.f6 (un h)),(fun h h2=>row_kept9 (J.f7 (un h) (un h2)) (k_alloc (Below.refl _ _) _)),(fun h=>J.f8 (un h)),(fun _ _=>⟨_,rfl,newestB _ _,hB.size⟩),(fun h _=>absurd (((hcl 10 9 (by kernel_rfl) hLi)).symm.trans (un h)) (by simp)),(fun h=>J.f11 (un h)),(fun h=>J.f12 (un h)),(fun h=>J.f13 (un h)),(fun h _=>absurd (((hcl 14 10 (by kernel_rfl) (hcl 10 9 (by kernel_rfl) hLi))).symm.trans (un h)) (by simp)),(fun h=>J.f15 (un h)),(fun h=>J.f16 (un h)),(fun h=>absurd (((hcl 17 14 (by kernel_rfl) (hcl 14 10 (by kernel_rfl) (hcl 10 9 (by kernel_rfl) hLi)))).symm.trans (un h)) (by simp)),(fun _=>k_alloc hB _),(fun h3 _ h7 vb e hb=>by have h4:=(row_lt (J.f3 (un h3) (un h7)) hb).2;simp only [Value.slice.injEq,Option.some.injEq,Addr.mk.injEq,and_true] at e;omega)⟩⟩
       ·skip
        have hN:=(hcl 17 14 (by kernel_rfl) (hcl 14 10 (by kernel_rfl) hLi))
        have hB:=J.b hN
        have h7:L 7=true:=(haft ⟨7,.data⟩ (by simp) rfl)
        have hO:=J.f7 h7 hLi
        obtain ⟨vb,rfl,hvb,hvl⟩:=J.f9 (haft ⟨9,.data⟩ (by simp) rfl) hLi
        rw [if_pos (by rfl)]
        refine wp_append_src _ (.tmp 66) (.tmp 68) 86 rfl w5.heap.size 62 i3 _ 11 96 Try.underlying86 hi3 hw0 hw1 hw2 rfl (by decide) _ _ _ rfl hO (some ⟨vb,0,none⟩) 1 1 (cellVs x) rfl (fun _=>by simp) rfl (fun q hq=>by simp only [Option.some.injEq] at hq;subst hq;exact news_at hvb) (fun u hu=>one_flat [x] u (by simpa using hu)) (by unfold maxLen;omega) (by omega) hB.size ?_
        intro v' w5' hown' hgrow'
        exact hK _ _ ⟨_,_,_,_,_,_,_,_,_,_,_,_,_,_,_,_,_,rfl,⟨(fun h=>J.f0 (un h)),(fun h=>J.f1 (un h)),(fun h=>J.f2 (un h)),(fun h h2=>absurd ((un h2).symm.trans h7) (by simp)),(fun h=>J.f4 (un h)),(fun h=>J.f5 (un h)),(fun h=>J.f6 (un h)),(fun _ h=>absurd (h.symm.trans upd_self) (by simp)),(fun h=>J.f8 (un h)),(fun _ h=>absurd (h.symm.trans upd_self) (by simp)),(fun _ _=>hown'),(fun h=>J.f11 (un h)),(fun h=>J.f12 (un h)),(fun h=>J.f13 (un h)),(fun h _=>absurd (((hcl 14 10 (by kernel_rfl) hLi)).symm.trans (un h)) (by simp)),(fun h=>J.f15 (un h)),(fun h=>J.f16 (un h)),(fun h=>absurd (((hcl 17 14 (by kernel_rfl) (hcl 14 10 (by kernel_rfl) hLi))).symm.trans (un h)) (by simp)),(fun _=>hB.grown hgrow' hB.size (fun q hq=>(hO.lt q hq).1)),J.ne⟩⟩
       ·skip
        have hN:=(hcl 17 14 (by kernel_rfl) (hcl 14 13 (by kernel_rfl) (hcl 13 11 (by kernel_rfl) hLi)))
        have hB:=J.b hN
        go_simp
        exact hK _ _ ⟨_,_,_,_,_,_,_,_,_,_,_,_,_,_,_,_,_,rfl,⟨(fun h=>J.f0 (un h)),(fun h=>J.f1 (un h)),(fun h=>J.f2 (un h)),(fun h h2=>(J.f3 (un h) (un h2))),(fun h=>J.f4 (un h)),(fun h=>J.f5 (un h)),(fun h=>J.f6 (un h)),(fun h h2=>(J.f7 (un h) (un h2))),(fun h=>J.f8 (un h)),(fun h h2=>(J.f9 (un h) (un h2))),(fun h h2=>(J.f10 (un h) (un h2))),(fun _=>rfl),(fun h=>J.f12 (un h)),(fun h=>absurd (((hcl 13 11 (by kernel_rfl) hLi)).symm.trans (un h)) (by simp)),(fun h _=>absurd (((hcl 14 13 (by kernel_rfl) (hcl 13 11 (by kernel_rfl) hLi))).symm.trans (un h)) (by simp)),(fun h=>J.f15 (un h)),(fun h=>J.f16 (un h)),(fun h=>absurd (((hcl 17 14 (by kernel_rfl) (hcl 14 13 (by kernel_rfl) (hcl 13 11 (by kernel_rfl) hLi)))).symm.trans (un h)) (by simp)),(fun _=>hB),J.ne⟩⟩
       ·skip
        have hN:=(hcl 17 14 (by kernel_rfl) (hcl 14 13 (by kernel_rfl) (hcl 13 12 (by kernel_rfl) hLi)))
        have hB:=J.b hN
        go_simp
        exact hK _ _ ⟨_,_,_,_,_,_,_,_,_,_,_,_,_,_,_,_,_,rfl,⟨(fun h=>J.f0 (un h)),(fun h=>J.f1 (un h)),(fun h=>J.f2 (un h)),(fun h h2=>(J.f3 (un h) (un h2))),(fun h=>J.f4 (un h)),(fun h=>J.f5 (un h)),(fun h=>J.f6 (un h)),(fun h h2=>(J.f7 (un h) (un h2))),(fun h=>J.f8 (un h)),(fun h h2=>(J.f9 (un h) (un h2))),(fun h h2=>(J.f10 (un h) (un h2))),(fun h=>J.f11 (un h)),(fun _=>rfl),(fun h=>absurd (((hcl 13 12 (by kernel_rfl) hLi)).symm.trans (un h)) (by simp)),(fun h _=>absurd (((hcl 14 13 (by kernel_rfl) (hcl 13 12 (by kernel_rfl) hLi))).symm.trans (un h)) (by simp)),(fun h=>J.f15 (un h)),(fun h=>J.f16 (un h)),(fun h=>absurd (((hcl 17 14 (by kernel_rfl) (hcl 14 13 (by kernel_rfl) (hcl 13 12 (by kernel_rfl) hLi)))).symm.trans (un h)) (by simp)),(fun _=>hB),J.ne⟩⟩
       ·skip
        have hN:=(hcl 17 14 (by kernel_rfl) (hcl 14 13 (by kernel_rfl) hLi))
        have hB:=J.b hN
        obtain rfl:=J.f11 (haft ⟨11,.data⟩ (by simp) rfl)
        obtain rfl:=J.f12 (haft ⟨12,.data⟩ (by simp) rfl)
        go_simp
        exact hK _ _ ⟨_,_,_,_,_,_,_,_,_,_,_,_,_,_,_,_,_,rfl,⟨(fun h=>J.f0 (un h)),(fun h=>J.f1 (un h)),(fun h=>J.f2 (un h)),(fun h h2=>(J.f3 (un h) (un h2))),(fun h=>J.f4 (un h)),(fun h=>J.f5 (un h)),(fun h=>J.f6 (un h)),(fun h h2=>(J.f7 (un h) (un h2))),(fun h=>J.f8 (un h)),(fun h h2=>(J.f9 (un h) (un h2))),(fun h h2=>(J.f10 (un h) (un h2))),(fun h=>J.f11 (un h)),(fun h=>J.f12 (un h)),(fun _=>⟨_,_,rfl,HS2.out _ (by first | rfl | simp)⟩),(fun h _=>absurd (((hcl 14 13 (by kernel_rfl) hLi)).symm.trans (un h)) (by simp)),(fun h=>J.f15 (un h)),(fun h=>J.f16 (un h)),(fun h=>absurd (((hcl 17 14 (by kernel_rfl) (hcl 14 13 (by kernel_rfl) hLi))).symm.trans (un h)) (by simp)),(fun _=>hB),J.ne⟩⟩
       ·skip
        have hN:=(hcl 17 14 (by kernel_rfl) hLi)
        have hB:=J.b hN
        have h10:L 10=true:=(haft ⟨10,.data⟩ (by simp) rfl)
        have h7:L 7=true:=eq_true_of_ne_false (fun h3=>by have h4:=hcl 10 7 (by kernel_rfl) h3;rw [h10] at h4;cases h4)
        have hO:=J.f10 h10 hLi
        obtain ⟨A,c,rfl,hS⟩:=J.f13 (haft ⟨13,.data⟩ (by simp) rfl)
        rw [if_pos (by rfl)]
        refine wp_append_src _ (.tmp 69) (.tmp 72) 86 rfl w5.heap.size 62 i3 _ 11 96 Try.underlying86 hi3 hw0 hw1 hw2 rfl (by decide) _ _ _ rfl hO A (m - a) c ((cs.drop a).flatMap cellVs) rfl hS.1 HLd.out (fun q hq=>hS.2 W hB q hq) (one_flat _) (by unfold maxLen;omega) (by omega) hB.size ?_
        intro v' w5' hown' hgrow'
        obtain ⟨a9,c9,rfl,_⟩:=row_form hown'
        exact hK _ _ ⟨_,_,_,_,_,_,_,_,_,_,_,_,_,_,_,_,_,rfl,⟨(fun h=>J.f0 (un h)),(fun h=>J.f1 (un h)),(fun h=>J.f2 (un h)),(fun h h2=>absurd ((un h2).symm.trans h7) (by simp)),(fun h=>J.f4 (un h)),(fun h=>J.f5 (un h)),(fun h=>J.f6 (un h)),(fun h h2=>absurd ((un h2).symm.trans h10) (by simp)),(fun h=>J.f8 (un h)),(fun h h2=>absurd ((un h2).symm.trans h10) (by simp)),(fun _ h=>absurd (h.symm.trans upd_self) (by simp)),(fun h=>J.f11 (un h)),(fun h=>J.f12 (un h)),(fun h=>J.f13 (un h)),(fun _ _=>⟨a9,c9,rfl,HEr.out hown'⟩),(fun h=>J.f15 (un h)),(fun h=>J.f16 (un h)),(fun h=>absurd (((hcl 17 14 (by kernel_rfl) hLi)).symm.trans (un h)) (by simp)),(fun _=>hB.grown hgrow' hB.size (fun q hq=>(hO.lt q hq).1)),J.ne⟩⟩
       ·skip
        have hN:=(hcl 17 16 (by kernel_rfl) (hcl 16 15 (by kernel_rfl) hLi))
        have hB:=J.b hN
        obtain rfl:=J.f1 (haft ⟨1,.data⟩ (by simp) rfl)
        obtain rfl:=J.f2 (haft ⟨2,.data⟩ (by simp) rfl)
        go_simp
        exact hK _ _ ⟨_,_,_,_,_,_,_,_,_,_,_,_,_,_,_,_,_,rfl,⟨(fun h=>J.f0 (un h)),(fun h=>J.f1 (un h)),(fun h=>J.f2 (un h)),(fun h h2=>(J.f3 (un h) (un h2))),(fun h=>J.f4 (un h)),(fun h=>J.f5 (un h)),(fun h=>J.f6 (un h)),(fun h h2=>(J.f7 (un h) (un h2))),(fun h=>J.f8 (un h)),(fun h h2=>(J.f9 (un h) (un h2))),(fun h h2=>(J.f10 (un h) (un h2))),(fun h=>J.f11 (un h)),(fun h=>J.f12 (un h)),(fun h=>J.f13 (un h)),(fun h h2=>(J.f14 (un h) (un h2))),(fun _=>rfl),(fun h=>absurd (((hcl 16 15 (by kernel_rfl) hLi)).symm.trans (un h)) (by simp)),(fun h=>absurd (((hcl 17 16 (by kernel_rfl) (hcl 16 15 (by kernel_rfl) hLi))).symm.trans (un h)) (by simp)),(fun _=>hB),J.ne⟩⟩
       ·skip
        have hN:=(hcl 17 16 (by kernel_rfl) hLi)
        have hB:=J.b hN
        obtain rfl:=J.f15 (haft ⟨15,.data⟩ (by simp) rfl)
        go_simp
        exact hK _ _ ⟨_,_,_,_,_,_,_,_,_,_,_,_,_,_,_,_,_,rfl,⟨(fun h=>J.f0 (un h)),(fun h=>J.f1 (un h)),(fun h=>J.f2 (un h)),(fun h h2=>(J.f3 (un h) (un h2))),(fun h=>J.f4 (un h)),(fun h=>J.f5 (un h)),(fun h=>J.f6 (un h)),(fun h h2=>(J.f7 (un h) (un h2))),(fun h=>J.f8 (un h)),(fun h h2=>(J.f9 (un h) (un h2))),(fun h h2=>(J.f10 (un h) (un h2))),(fun h=>J.f11 (un h)),(fun h=>J.f12 (un h)),(fun h=>J.f13 (un h)),(fun h h2=>(J.f14 (un h) (un h2))),(fun h=>J.f15 (un h)),(fun _=>rfl),(fun h=>absurd (((hcl 17 16 (by kernel_rfl) hLi)).symm.trans (un h)) (by simp)),(fun _=>hB),J.ne⟩⟩
       ·skip
        have hN:=hLi
        have hB:=J.b hN
        have h14:L 14=true:=(haft ⟨14,.data⟩ (by simp) rfl)
        have h10:L 10=true:=eq_true_of_ne_false (fun h3=>by have h4:=hcl 14 10 (by kernel_rfl) h3;rw [h14] at h4;cases h4)
        have h7:L 7=true:=eq_true_of_ne_false (fun h3=>by have h4:=hcl 10 7 (by kernel_rfl) h3;rw [h10] at h4;cases h4)
        have hB:=J.b hLi
        obtain ⟨a9,c9,rfl,hC⟩:=J.f14 h14 hLi
        obtain rfl:=J.f16 (haft ⟨16,.data⟩ (by simp) rfl)
        have hbk:=(hB.block _ hglw).trans HG.out
        obtain ⟨y0,hy0⟩:=someB (p:=r * 2) hbk hrs
        have fz:=freeB (p:=r * 2) hbk
        go_simp
        exact hK _ _ ⟨_,_,_,_,_,_,_,_,_,_,_,_,_,_,_,_,_,rfl,⟨(fun h=>J.f0 (un h)),(fun h=>J.f1 (un h)),(fun h=>J.f2 (un h)),(fun h h2=>absurd ((un h2).symm.trans h7) (by simp)),(fun h=>J.f4 (un h)),(fun h=>J.f5 (un h)),(fun h=>J.f6 (un h)),(fun h h2=>absurd ((un h2).symm.trans h10) (by simp)),(fun h=>J.f8 (un h)),(fun h h2=>absurd ((un h2).symm.trans h10) (by simp)),(fun h h2=>absurd ((un h2).symm.trans h14) (by simp)),(fun h=>J.f11 (un h)),(fun h=>J.f12 (un h)),(fun h=>J.f13 (un h)),(fun _ h=>absurd (h.symm.trans upd_self) (by simp)),(fun h=>J.f15 (un h)),(fun h=>J.f16 (un h)),(fun _=>⟨a9,c9,W,hB,hC,rfl⟩),(fun h=>absurd (h.symm.trans upd_self) (by simp)),J.ne⟩⟩
end Go.Proofs.Ytggmjiddadjilao
