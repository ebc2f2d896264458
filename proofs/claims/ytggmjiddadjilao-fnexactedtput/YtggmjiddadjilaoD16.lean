/-
  PROVED HERE: what the program's EdtPut answers: of a table that is ok the table with one cell more, or the table as it is, in memory of its own; else nothing; nothing that was in memory is turned. Also: what the model's BrdOk answers at every border. Also: what the model's CellOk answers at every cell whose text is a Go string.
-/
import Derived.Test.YtggmjiddadjilaoD14
import Derived.Test.YtggmjiddadjilaoD8
import Derived.Test.YtggmjiddadjilaoD12
import Derived.Test.YtggmjiddadjilaoD15
import Derived.Test.YtggmjiddadjilaoD13
import Derived.Test.YtggmjiddadjilaoD9
import Derived.Test.YtggmjiddadjilaoD6
import Derived.Test.YtggmjiddadjilaoD10
namespace Go.Proofs.Ytggmjiddadjilao
open Go.RowKit

set_option maxRecDepth 100000 in
set_option maxHeartbeats 4000000 in
theorem implEdtPut (ac ar:Option Addr) (cc cr:Nat) (t:T) (row at':Int) (hrow:-9223372036854775808≤row∧row≤9223372036854775807) (x:C) (hxs:x.s.size≤maxLen) (w:World) {z:Nat} (hc:ColsAt w z (.slice ac t.cols.length cc) t.cols) (hr:RowsAt w z (.slice ar t.rows.length cr) t.rows) :
  Calls Try.prog 25 #[.agg #[.slice ac t.cols.length cc,.int .i64 t.head,.int .i64 t.foot,.slice ar t.rows.length cr,.int .i64 t.gap],.int .i64 row,.int .i64 at',.agg #[.string x.s,.int .i64 x.c,.int .i64 x.r,.int .i64 x.a1,.int .i64 x.b1,.int .i64 x.a2,.int .i64 x.b2,.int .i64 x.a3,.int .i64 x.b3,.int .i64 x.a4,.int .i64 x.b4]] w fun e w'=>∃ a1 c1 a2 c2 d1 d2,e=.returned (.tuple #[.agg #[.slice a1 d1 c1,.int .i64 (edPut t row at' x).1.head,.int .i64 (edPut t row at' x).1.foot,.slice a2 d2 c2,.int .i64 (edPut t row at' x).1.gap],.bool (edPut t row at' x).2])∧OwnT w' w.heap.size (.slice a1 d1 c1) (.slice a2 d2 c2) (edPut t row at' x).1∧Below w.heap.size w w':=by
 have hmf:∀ (fn:Fn) (first cap:Array Value) (W:World),(Instr.makeFunc fn first cap).run Try.prog W=.ok (.func fn first cap) W:=fun _ _ _ _=>rfl
 obtain ⟨W0,hW0⟩:∃ W0,((((w.alloc (.cells #[.slice ac t.cols.length cc,.int .i64 t.head,.int .i64 t.foot,.slice ar t.rows.length cr,.int .i64 t.gap] 56)).alloc (.cells #[.int .i64 row] 3)).alloc (.cells #[.int .i64 at'] 3)).alloc (.cells #[.string x.s,.int .i64 x.c,.int .i64 x.r,.int .i64 x.a1,.int .i64 x.b1,.int .i64 x.a2,.int .i64 x.b2,.int .i64 x.a3,.int .i64 x.b3,.int .i64 x.a4,.int .i64 x.b4] 62)).alloc (.cells #[.slice none 0 0,.int .i64 0,.int .i64 0,.slice none 0 0,.int .i64 0] 56)=W0:=⟨_,rfl⟩
 have K0:Below w.heap.size w W0:=by rw [← hW0];exact k_alloc (k_alloc (k_alloc (k_alloc (k_alloc (Below.refl _ _) _) _) _) _) _
 have T0:W0.heap[w.heap.size]?=some (.cells #[.slice ac t.cols.length cc,.int .i64 t.head,.int .i64 t.foot,.slice ar t.rows.length cr,.int .i64 t.gap] 56):=by rw [← hW0];exact alloc_at (alloc_at (alloc_at (alloc_at (newestB _ _))))
 have T1:W0.heap[w.heap.size+1]?=some (.cells #[.int .i64 row] 3):=by rw [← hW0];exact alloc_at (alloc_at (alloc_at (alloc_new (by simp))))
 have T2:W0.heap[w.heap.size+1+1]?=some (.cells #[.int .i64 at'] 3):=by rw [← hW0];exact alloc_at (alloc_at (alloc_new (by simp)))
 have T3:W0.heap[w.heap.size+1+1+1]?=some (.cells (cellVs x).toArray 62):=by rw [← hW0];exact alloc_at (alloc_new (by simp))
 have T4:W0.heap[w.heap.size+1+1+1+1]?=some (.cells #[.slice none 0 0,.int .i64 0,.int .i64 0,.slice none 0 0,.int .i64 0] 56):=by rw [← hW0];exact alloc_new (by simp)
 have hsz:w.heap.size+1+1+1+1 < W0.heap.size:=(Array.getElem?_eq_some_iff.1 T4).1
 have KO:=Hid.intro (implCopyOf ac ar cc cr t W0 (hc.kept K0) (hr.kept K0))
 have HTx:=Hid.intro (txM_at hr)
 have HK0:=Hid.intro K0
 obtain ⟨b0,b1,b2,b3,b4⟩:=fiveO T0
 have HT1:=Hid.intro T1
 have HT2:=Hid.intro T2
 have HT3:=Hid.intro T3
 have HT4:=Hid.intro T4
 clear hc hr K0 T0 T1 T2 T3 T4
 go_enter Try.func25,Try.ntmps25
 go_upto_region 1 with fail
 clear hW0
 have hl4:w.heap.size≤w.heap.size+1+1+1+1:=by omega
 have hl3:w.heap.size+1+1+1 < W0.heap.size:=by omega
 generalize w.heap.size+1+1+1+1=bz at HT4 hsz hl4 ⊢
 generalize w.heap.size+1+1+1=bs at HT3 hl3 ⊢
 generalize w.heap.size+1+1=ba at HT2 ⊢
 generalize w.heap.size+1=br at HT1 ⊢
 go_wp2_with fail
 refine KO.out.mono ?_
 rintro e w1 ⟨hcase,hb1⟩
 have hlz1:=Nat.lt_of_lt_of_le hsz hb1.size
 replace HT1:=Hid.intro ((hb1.block _ (Array.getElem?_eq_some_iff.1 HT1.out).1).trans HT1.out)
 replace HT2:=Hid.intro ((hb1.block _ (Array.getElem?_eq_some_iff.1 HT2.out).1).trans HT2.out)
 replace HT3:=Hid.intro ((hb1.block _ (Array.getElem?_eq_some_iff.1 HT3.out).1).trans HT3.out)
 replace HT4:=Hid.intro ((hb1.block _ (Array.getElem?_eq_some_iff.1 HT4.out).1).trans HT4.out)
 replace HK0:=Hid.intro (k_trans HK0.out hb1)
 clear KO b0 b1 b2 b3 b4
 rcases hcase with ⟨htk,rfl⟩ | ⟨htk,a1,c1,a2,c2,rfl,hO1⟩
 ·have HE:Hid (edPut t row at' x=(zT,false)):=by show _=_;rw [edPut,if_neg (by rw [htk];simp)]
  replace HT4:=Hid.intro (alloc_at (o:=(.cells #[.slice none 0 0,.int .i64 0,.int .i64 0,.slice none 0 0,.int .i64 0] 56)) HT4.out)
  replace HK0:=Hid.intro (k_alloc HK0.out (.cells #[.slice none 0 0,.int .i64 0,.int .i64 0,.slice none 0 0,.int .i64 0] 56))
  have HX:Hid ((w1.alloc (.cells #[.slice none 0 0,.int .i64 0,.int .i64 0,.slice none 0 0,.int .i64 0] 56)).heap[w1.heap.size]?=some (.cells #[.slice none 0 0,.int .i64 0,.int .i64 0,.slice none 0 0,.int .i64 0] 56)):=newestB _ _
  clear HT2 HT3 hb1 htk
  replace HT1:=Hid.intro (alloc_at (o:=(.cells #[.slice none 0 0,.int .i64 0,.int .i64 0,.slice none 0 0,.int .i64 0] 56)) HT1.out)
  go_upto_region 2 with fail
  generalize w1.alloc (.cells #[.slice none 0 0,.int .i64 0,.int .i64 0,.slice none 0 0,.int .i64 0] 56)=W1 at HT1 HT4 HK0 HX ⊢
  generalize w1.heap.size=xb at HX hlz1 ⊢
  obtain ⟨x0,x1,x2,x3,x4⟩:=fiveO HX.out
  have y1:=cellB (p:=0) HT1.out
  have KN:=Hid.intro (implCellsIn none none 0 0 zT row hrow W1 (z:=0) ⟨none,0,rfl,Nat.le_refl _,Nat.zero_le _,fun i hi=>absurd hi (by simp [zT])⟩)
  go_wp2_with fail
  refine KN.out.mono ?_
  rintro e wN ⟨rfl,hbN⟩
  replace HT4:=Hid.intro ((hbN.block _ (Array.getElem?_eq_some_iff.1 HT4.out).1).trans HT4.out)
  replace HX:=Hid.intro ((hbN.block _ (Array.getElem?_eq_some_iff.1 HX.out).1).trans HX.out)
  replace HK0:=Hid.intro (k_trans HK0.out hbN)
  clear hbN KN y1 x0 x1 x2 x3 x4
  generalize cellsInV zT row=mz
  have KB:=Hid.intro (fun p0 p1 p2 p3=>behindPut_no xb p0 p1 p2 p3 none none 0 0 0 0 0 0 0 wN HX.out)
  go_wp2_with fail
  refine (KB.out _ _ _ _).mono ?_
  rintro e w2 ⟨rfl,hb2⟩
  replace HT4:=Hid.intro ((hb2.block _ (Array.getElem?_eq_some_iff.1 HT4.out).1).trans HT4.out)
  replace HK0:=Hid.intro (k_trans HK0.out hb2)
  obtain ⟨d0,d1,d2,d3,d4⟩:=fiveO HT4.out
  have fz:∀ p,w2.frozen? ⟨bz,p,none⟩=false:=fun p=>freeB HT4.out
  clear hb2 KB
  go_wp2
  exact bodyPost_ret (v:=.tuple #[.agg #[.slice none 0 0,.int .i64 0,.int .i64 0,.slice none 0 0,.int .i64 0],.bool false]) (by simp [results,Try.results25,go_sem,d0,d1,d2,d3,d4]) rfl ⟨none,0,none,0,0,0,by rw [HE.out];rfl,by rw [HE.out];exact ⟨[],rfl,⟨rfl,.inl ⟨rfl,rfl⟩⟩,⟨⟨rfl,.inl ⟨rfl,rfl⟩⟩,fun p hp=>absurd hp (by simp),.nil⟩⟩,k_set (k_set (k_set (k_set (k_set HK0.out hl4 _) hl4 _) hl4 _) hl4 _) hl4 _⟩
 ·obtain ⟨ur,hur,hOc,hOr⟩:=hO1
  have Hur:=Hid.intro hur
  have HOD:=Hid.intro ((OwnD.of hOc hOr).kept (k_alloc (Below.refl _ _) (.cells #[.slice a1 t.cols.length c1,.int .i64 t.head,.int .i64 t.foot,.slice a2 t.rows.length c2,.int .i64 t.gap] 56)))
  have HTM:Hid (RowsAt (w1.alloc (.cells #[.slice a1 t.cols.length c1,.int .i64 t.head,.int .i64 t.foot,.slice a2 t.rows.length c2,.int .i64 t.gap] 56)) W0.heap.size (.slice a2 t.rows.length c2) t.rows):=OwnT.rows (own_lt (t:=t) HOD.out rfl hur) HTx.out
  replace HT1:=Hid.intro (alloc_at (o:=(.cells #[.slice a1 t.cols.length c1,.int .i64 t.head,.int .i64 t.foot,.slice a2 t.rows.length c2,.int .i64 t.gap] 56)) HT1.out)
  replace HT2:=Hid.intro (alloc_at (o:=(.cells #[.slice a1 t.cols.length c1,.int .i64 t.head,.int .i64 t.foot,.slice a2 t.rows.length c2,.int .i64 t.gap] 56)) HT2.out)
  replace HT3:=Hid.intro (alloc_at (o:=(.cells #[.slice a1 t.cols.length c1,.int .i64 t.head,.int .i64 t.foot,.slice a2 t.rows.length c2,.int .i64 t.gap] 56)) HT3.out)
  replace HT4:=Hid.intro (alloc_at (o:=(.cells #[.slice a1 t.cols.length c1,.int .i64 t.head,.int .i64 t.foot,.slice a2 t.rows.length c2,.int .i64 t.gap] 56)) HT4.out)
  replace HK0:=Hid.intro (k_alloc HK0.out (.cells #[.slice a1 t.cols.length c1,.int .i64 t.head,.int .i64 t.foot,.slice a2 t.rows.length c2,.int .i64 t.gap] 56))
  have HX:Hid ((w1.alloc (.cells #[.slice a1 t.cols.length c1,.int .i64 t.head,.int .i64 t.foot,.slice a2 t.rows.length c2,.int .i64 t.gap] 56)).heap[w1.heap.size]?=some (.cells #[.slice a1 t.cols.length c1,.int .i64 t.head,.int .i64 t.foot,.slice a2 t.rows.length c2,.int .i64 t.gap] 56)):=newestB _ _
  have HEd:Hid (edPut t row at' x=if (cB x && plB t row at')=true then (setRow t row.toNat (insC (t.rows.getD row.toNat dR).cells at'.toNat x),true) else (t,false)):=by show _=_;rw [edPut,if_pos htk]
  clear hOc hOr hb1 htk hur HTx
  go_upto_region 2 with fail
  generalize w1.alloc (.cells #[.slice a1 t.cols.length c1,.int .i64 t.head,.int .i64 t.foot,.slice a2 t.rows.length c2,.int .i64 t.gap] 56)=W1 at HT1 HT2 HT3 HT4 HK0 HX HOD HTM ⊢
  generalize w1.heap.size=xb at HX HOD hlz1 ⊢
  obtain ⟨x0,x1,x2,x3,x4⟩:=fiveO HX.out
  have y1:=cellB (p:=0) HT1.out
  have KN:=Hid.intro (implCellsIn a1 a2 c1 c2 t row hrow W1 HTM.out)
  go_wp2_with fail
  refine KN.out.mono ?_
  rintro e w2 ⟨rfl,hb2⟩
  replace HT1:=Hid.intro ((hb2.block _ (Array.getElem?_eq_some_iff.1 HT1.out).1).trans HT1.out)
  replace HT2:=Hid.intro ((hb2.block _ (Array.getElem?_eq_some_iff.1 HT2.out).1).trans HT2.out)
  replace HT3:=Hid.intro ((hb2.block _ (Array.getElem?_eq_some_iff.1 HT3.out).1).trans HT3.out)
  replace HT4:=Hid.intro ((hb2.block _ (Array.getElem?_eq_some_iff.1 HT4.out).1).trans HT4.out)
  replace HX:=Hid.intro ((hb2.block _ (Array.getElem?_eq_some_iff.1 HX.out).1).trans HX.out)
  replace HK0:=Hid.intro (k_trans HK0.out hb2)
  replace HOD:=Hid.intro (HOD.out.kept hb2)
  clear hb2 KN x0 x1 x2 x3 x4 y1 HTM
  obtain ⟨z0,z1,z2,z3,z4,z5,z6,z7,z8,z9,z10⟩:=elevenO HT3.out
  have KC:=Hid.intro (implCellOk x.s x.c x.r x.a1 x.b1 x.a2 x.b2 x.a3 x.b3 x.a4 x.b4 w2 hxs)
  cases hcx:cB x with
  | false =>
   rw [show cellOkB x.s x.c x.r x.a1 x.b1 x.a2 x.b2 x.a3 x.b3 x.a4 x.b4=cB x from rfl,hcx] at KC
   have Hno:Hid ((cB x && plB t row at')=false):=by show _=_;rw [hcx,Bool.false_and]
   clear hcx
   go_wp2_with fail
   refine KC.out.mono ?_
   rintro e w3 ⟨rfl,hb3⟩
   replace HT1:=Hid.intro ((hb3.block _ (Array.getElem?_eq_some_iff.1 HT1.out).1).trans HT1.out)
   replace HT2:=Hid.intro ((hb3.block _ (Array.getElem?_eq_some_iff.1 HT2.out).1).trans HT2.out)
   replace HT3:=Hid.intro ((hb3.block _ (Array.getElem?_eq_some_iff.1 HT3.out).1).trans HT3.out)
   replace HT4:=Hid.intro ((hb3.block _ (Array.getElem?_eq_some_iff.1 HT4.out).1).trans HT4.out)
   replace HX:=Hid.intro ((hb3.block _ (Array.getElem?_eq_some_iff.1 HX.out).1).trans HX.out)
   replace HK0:=Hid.intro (k_trans HK0.out hb3)
   replace HOD:=Hid.intro (HOD.out.kept hb3)
   clear hb3 KC z0 z1 z2 z3 z4 z5 z6 z7 z8 z9 z10
   have HE:Hid (edPut t row at' x=(t,false)):=by show _=_;rw [HEd.out,if_neg (by rw [Hno.out];simp)]
   clear HEd Hno
   have KB:=Hid.intro (fun p0 p1 p2 p3=>behindPut_no xb p0 p1 p2 p3 a1 a2 t.cols.length c1 t.rows.length c2 t.head t.foot t.gap w3 HX.out)
   go_wp2_with fail
   refine (KB.out _ _ _ _).mono ?_
   rintro e w5 ⟨rfl,hb5⟩
   replace HT4:=Hid.intro ((hb5.block _ (Array.getElem?_eq_some_iff.1 HT4.out).1).trans HT4.out)
   replace HK0:=Hid.intro (k_trans HK0.out hb5)
   replace HOD:=Hid.intro (HOD.out.kept hb5)
   obtain ⟨d0,d1,d2,d3,d4⟩:=fiveO HT4.out
   have fz:∀ p,w5.frozen? ⟨bz,p,none⟩=false:=fun p=>freeB HT4.out
   clear hb5 KB
   go_wp2
   exact bodyPost_ret (v:=.tuple #[.agg #[.slice a1 t.cols.length c1,.int .i64 t.head,.int .i64 t.foot,.slice a2 t.rows.length c2,.int .i64 t.gap],.bool false]) (by simp [results,Try.results25,go_sem,d0,d1,d2,d3,d4]) rfl ⟨a1,c1,a2,c2,_,_,by rw [HE.out],by rw [HE.out];exact OwnT.base (OwnT.since (own_lt HOD.out rfl Hur.out) (Since.set (Since.set (Since.set (Since.set (Since.set (Since.refl _ _) (p:=⟨bz,0,none⟩) hsz _) (p:=⟨bz,1,none⟩) hsz _) (p:=⟨bz,2,none⟩) hsz _) (p:=⟨bz,3,none⟩) hsz _) (p:=⟨bz,4,none⟩) hsz _)) (by omega),k_set (k_set (k_set (k_set (k_set HK0.out hl4 _) hl4 _) hl4 _) hl4 _) hl4 _⟩
  | true =>
   rw [show cellOkB x.s x.c x.r x.a1 x.b1 x.a2 x.b2 x.a3 x.b3 x.a4 x.b4=cB x from rfl,hcx] at KC
   have Hcx:=Hid.intro hcx
   clear hcx
   go_wp2_with fail
   refine KC.out.mono ?_
   rintro e w3 ⟨rfl,hb3⟩
   replace HT1:=Hid.intro ((hb3.block _ (Array.getElem?_eq_some_iff.1 HT1.out).1).trans HT1.out)
   replace HT2:=Hid.intro ((hb3.block _ (Array.getElem?_eq_some_iff.1 HT2.out).1).trans HT2.out)
   replace HT3:=Hid.intro ((hb3.block _ (Array.getElem?_eq_some_iff.1 HT3.out).1).trans HT3.out)
   replace HT4:=Hid.intro ((hb3.block _ (Array.getElem?_eq_some_iff.1 HT4.out).1).trans HT4.out)
   replace HX:=Hid.intro ((hb3.block _ (Array.getElem?_eq_some_iff.1 HX.out).1).trans HX.out)
   replace HK0:=Hid.intro (k_trans HK0.out hb3)
   replace HOD:=Hid.intro (HOD.out.kept hb3)
   clear hb3 KC z0 z1 z2 z3 z4 z5 z6 z7 z8 z9 z10
   have y2:=cellB (p:=0) HT2.out
   have KW:=Hid.intro (within_any at' 0 (cellsInV t row) w3)
   cases hin:inB at' 0 (cellsInV t row) with
   | false =>
    rw [hin] at KW
    have Hno:Hid ((cB x && plB t row at')=false):=by show _=_;rw [plB,hin,Bool.false_and,Bool.and_false]
    clear hin
    go_wp2_with fail
    refine KW.out.mono ?_
    rintro e w4 ⟨rfl,hw4⟩
    subst hw4
    clear KW y2
    have HE:Hid (edPut t row at' x=(t,false)):=by show _=_;rw [HEd.out,if_neg (by rw [Hno.out];simp)]
    clear HEd Hno
    have KB:=Hid.intro (fun p0 p1 p2 p3=>behindPut_no xb p0 p1 p2 p3 a1 a2 t.cols.length c1 t.rows.length c2 t.head t.foot t.gap _ HX.out)
    go_wp2_with fail
    refine (KB.out _ _ _ _).mono ?_
    rintro e w5 ⟨rfl,hb5⟩
    replace HT4:=Hid.intro ((hb5.block _ (Array.getElem?_eq_some_iff.1 HT4.out).1).trans HT4.out)
    replace HK0:=Hid.intro (k_trans HK0.out hb5)
    replace HOD:=Hid.intro (HOD.out.kept hb5)
    obtain ⟨d0,d1,d2,d3,d4⟩:=fiveO HT4.out
    have fz:∀ p,w5.frozen? ⟨bz,p,none⟩=false:=fun p=>freeB HT4.out
    clear hb5 KB
    go_wp2
    exact bodyPost_ret (v:=.tuple #[.agg #[.slice a1 t.cols.length c1,.int .i64 t.head,.int .i64 t.foot,.slice a2 t.rows.length c2,.int .i64 t.gap],.bool false]) (by simp [results,Try.results25,go_sem,d0,d1,d2,d3,d4]) rfl ⟨a1,c1,a2,c2,_,_,by rw [HE.out],by rw [HE.out];exact OwnT.base (OwnT.since (own_lt HOD.out rfl Hur.out) (Since.set (Since.set (Since.set (Since.set (Since.set (Since.refl _ _) (p:=⟨bz,0,none⟩) hsz _) (p:=⟨bz,1,none⟩) hsz _) (p:=⟨bz,2,none⟩) hsz _) (p:=⟨bz,3,none⟩) hsz _) (p:=⟨bz,4,none⟩) hsz _)) (by omega),k_set (k_set (k_set (k_set (k_set HK0.out hl4 _) hl4 _) hl4 _) hl4 _) hl4 _⟩
   | true =>
    rw [hin] at KW
    by_cases h5:cellsInV t row < 5
    ·have h5b:(cellsInV t row < 5)=True:=eq_true h5
     have Hpl:Hid (plB t row at'=true):=by show _=_;rw [plB,hin,Bool.true_and];exact decide_eq_true h5
     have HE:Hid (edPut t row at' x=(setRow t row.toNat (insC (t.rows.getD row.toNat dR).cells at'.toNat x),true)):=by show _=_;rw [HEd.out,if_pos (by rw [Hcx.out,Hpl.out];rfl)]
     clear hin HEd
     go_wp2_with fail
     refine KW.out.mono ?_
     rintro e w4 ⟨rfl,hw4⟩
     subst hw4
     clear KW y2
     obtain ⟨r,a,rfl,rfl,hrl,hal,hl5⟩:=plB_iff.1 Hpl.out
     rw [Int.toNat_natCast,Int.toNat_natCast] at HE
     have hur:=Hur.out
     have hul:ur.length=t.rows.length:=by rw [← hur,List.length_map]
     have hge:ur[r]?=some (ur[r]'(by omega)):=List.getElem?_eq_getElem (by omega)
     have hpr:(ur[r]'(by omega)).2=t.rows.getD r dR:=by rw [← map_snd_get hge,hur]
     generalize hpE:ur[r]'(by omega)=p at hge hpr
     clear hpE
     rw [← hpr] at hal HE hl5
     obtain ⟨g,cg,arr,ev,hg1,hg2,hgl,hgB,harr,hasz,ha0,ha1⟩:=own_get HOD.out.2.1 hge
     rw [hul] at ev hg1
     simp only [Value.slice.injEq,true_and] at ev
     obtain ⟨rfl,rfl⟩:=ev
     have hOCp:=HOD.out.2.1.cells p (List.mem_of_getElem? hge)
     obtain ⟨a0,cu,hpv,_⟩:=row_form hOCp
     have hOC2:OwnC w4 W0.heap.size (.slice a0 p.2.cells.length cu) p.2.cells:=by rw [← hpv];exact hOCp
     have ha0':arr[r * 2]?=some (.slice a0 p.2.cells.length cu):=by rw [← hpv];exact ha0
     have hub:p.1.ownBlock=(Value.slice a0 p.2.cells.length cu).ownBlock:=by rw [hpv]
     have hgz:g ≠ bz:=fun e=>by subst e;rw [HT4.out] at harr;simp at harr
     have hgx:g ≠ xb:=fun e=>by subst e;rw [HX.out] at harr;simp at harr
     have hgw:w.heap.size≤g:=by
      have:=(row_lt HOD.out.2.1.own (b:=g) rfl).1
      omega
     have hBl:W0.heap.size≤w4.heap.size:=by omega
     have hxl:xb < w4.heap.size:=(Array.getElem?_eq_some_iff.1 HX.out).1
     have hbzl:bz < w4.heap.size:=(Array.getElem?_eq_some_iff.1 HT4.out).1
     have hcb:some bs ≠ (Value.slice a0 p.2.cells.length cu).ownBlock:=fun e=>by
      have:=(row_lt hOC2 e.symm).1
      omega
     have hne:∀ k,k < W0.heap.size→some k ≠ p.1.ownBlock:=fun k hk e=>by
      have:=(row_lt hOCp e.symm).1
      omega
     have hxh:some xb ≠ p.1.ownBlock:=fun e=>(row_notM hOCp HX.out (by decide)) e.symm
     have hzW:bz < W0.heap.size:=hsz
     have KB:=Hid.intro (behindPut_yes xb (.pointer (some ⟨xb,0,none⟩)) (.pointer (some ⟨br,0,none⟩)) (.pointer (some ⟨ba,0,none⟩)) (.pointer (some ⟨bs,0,none⟩)) a1 (some ⟨g,0,none⟩) t.cols.length c1 t.rows.length c2 t.head t.foot t.gap w4
      (fun W=>∃ u,OwnM W W0.heap.size w4.heap.size (.slice a1 t.cols.length c1) (.slice (some ⟨g,0,none⟩) t.rows.length c2) t.cols (ur.set r (u,⟨insC p.2.cells a x,p.2.whole⟩))∧Below w.heap.size w W∧W.heap[bz]?=some (.cells #[.slice none 0 0,.int .i64 0,.int .i64 0,.slice none 0 0,.int .i64 0] 56))
      (fun W W' ⟨u,p1,p2,p3⟩ hk hs ho ht hu=>⟨u,p1.other hk,below_other p2 (n:=w4.heap.size) (by omega) hk hs ho ht hu,(hk bz (by omega)).trans p3⟩)
      ((closPut xb br ba bs g r a t.rows.length c2 p.2.cells.length cu W0.heap.size a0 a1 t.cols.length c1 (.int .i64 t.head) (.int .i64 t.foot) (.int .i64 t.gap) p.2.cells x arr (w4.alloc (.cells #[.slice none 0 0,.int .i64 0,.int .i64 0,.slice none 0 0,.int .i64 0] 56)) (alloc_at HX.out) (alloc_at HT1.out) (alloc_at HT2.out) (alloc_at HT3.out) (alloc_at harr) hrl ha0' rfl hal (by omega) (row_kept9 hOC2 (k_alloc (Below.refl _ _) _)) (by simp;omega) hcb).mono (fun e w' ⟨e1,a9,c9,W9,hg9,hc9,hat9,e2⟩=>by
       rw [← hub] at hg9 hat9
       have hg9':w4.grownBy W9 p.1.ownBlock:=grown_trans (grown_below (k_alloc (Below.refl _ _) (.cells #[.slice none 0 0,.int .i64 0,.int .i64 0,.slice none 0 0,.int .i64 0] 56))) hg9
       have hot9:∀ k,some k ≠ p.1.ownBlock→k < w4.heap.size+1→W9.heap[k]?=(w4.alloc (.cells #[.slice none 0 0,.int .i64 0,.int .i64 0,.slice none 0 0,.int .i64 0] 56)).heap[k]?:=fun k hk hl=>hg9.block k (by simp;omega) hk
       have hN9:W9.heap[w4.heap.size]?=some (.cells #[.slice none 0 0,.int .i64 0,.int .i64 0,.slice none 0 0,.int .i64 0] 56):=(hot9 _ (fun e=>by have:=(row_lt hOCp e.symm).2;omega) (by omega)).trans (newestB _ _)
       have hbl:Below w.heap.size w w':=by
        rw [e2]
        exact ((HK0.out.grown hg9' (by omega) (fun q hq=>by have:=(row_lt hOCp hq).1;omega))).setCell (p:=⟨g,r * 2,none⟩) (by dsimp only;omega) _
       refine ⟨e1,⟨.slice a9 (p.2.cells.length+1) c9,?_,hbl,?_⟩,?_,?_⟩
       ·rw [e2]
        exact own_put HOD.out (by rw [hul]) hge hg9' (by
         rcases hat9 with h9 | h9
         ·exact .inl h9
         ·exact .inr (fun b hb=>by have:=h9 b hb;simp at this;omega)) hc9 hN9
       ·rw [e2,Below.heap_setCell W9 ⟨g,r * 2,none⟩ _ bz (by dsimp only;omega)]
        exact (hot9 bz (hne bz hzW) (by omega)).trans (alloc_at HT4.out)
       ·rw [e2,Below.heap_setCell W9 ⟨g,r * 2,none⟩ _ xb (by dsimp only;omega)]
        exact (hot9 xb hxh (by omega)).trans (alloc_at HX.out)
       ·rw [e2,Below.heap_setCell W9 ⟨g,r * 2,none⟩ _ w4.heap.size (by dsimp only;omega)]
        exact hN9)))
     clear ha0 ha0' ha1 harr hasz hg1 hg2 hgl hgB HT1 HT2 HT3 HK0 hOCp hOC2 HOD HX HT4
     go_wp2_with fail
     refine KB.out.mono ?_
     rintro e w5 ⟨rfl,u5,hD5,hK5,hZ5⟩
     have HD5:=Hid.intro hD5
     have HK5:=Hid.intro hK5
     obtain ⟨d0,d1,d2,d3,d4⟩:=fiveO hZ5
     have fz:∀ p,w5.frozen? ⟨bz,p,none⟩=false:=fun p=>freeB hZ5
     have HUr:Hid ((ur.set r (u5,⟨insC p.2.cells a x,p.2.whole⟩)).map (·.2)=(setRow t r (insC p.2.cells a x)).rows):=by
      show _=_
      rw [map_set_snd,hur,setRow,hpr]
     clear hD5 hK5 hZ5 KB
     go_wp2
     exact bodyPost_ret (v:=.tuple #[.agg #[.slice a1 t.cols.length c1,.int .i64 t.head,.int .i64 t.foot,.slice (some ⟨g,0,none⟩) t.rows.length c2,.int .i64 t.gap],.bool true]) (by simp [results,Try.results25,go_sem,d0,d1,d2,d3,d4]) rfl ⟨a1,c1,some ⟨g,0,none⟩,c2,_,_,by rw [HE.out];rfl,by rw [HE.out];exact OwnT.base (OwnT.since (t:=setRow t r (insC p.2.cells a x)) ⟨_,HUr.out,HD5.out.1,HD5.out.2.1⟩ (Since.set (Since.set (Since.set (Since.set (Since.set (Since.refl _ _) (p:=⟨bz,0,none⟩) hsz _) (p:=⟨bz,1,none⟩) hsz _) (p:=⟨bz,2,none⟩) hsz _) (p:=⟨bz,3,none⟩) hsz _) (p:=⟨bz,4,none⟩) hsz _)) (by omega),k_set (k_set (k_set (k_set (k_set HK5.out hl4 _) hl4 _) hl4 _) hl4 _) hl4 _⟩
    ·have h5b:(cellsInV t row < 5)=False:=eq_false h5
     have Hno:Hid ((cB x && plB t row at')=false):=by show _=_;rw [plB,hin,Bool.true_and,decide_eq_false h5,Bool.and_false]
     clear hin h5
     go_wp2_with fail
     refine KW.out.mono ?_
     rintro e w4 ⟨rfl,hw4⟩
     subst hw4
     clear KW y2
     have HE:Hid (edPut t row at' x=(t,false)):=by show _=_;rw [HEd.out,if_neg (by rw [Hno.out];simp)]
     clear HEd Hno
     have KB:=Hid.intro (fun p0 p1 p2 p3=>behindPut_no xb p0 p1 p2 p3 a1 a2 t.cols.length c1 t.rows.length c2 t.head t.foot t.gap _ HX.out)
     go_wp2_with fail
     refine (KB.out _ _ _ _).mono ?_
     rintro e w5 ⟨rfl,hb5⟩
     replace HT4:=Hid.intro ((hb5.block _ (Array.getElem?_eq_some_iff.1 HT4.out).1).trans HT4.out)
     replace HK0:=Hid.intro (k_trans HK0.out hb5)
     replace HOD:=Hid.intro (HOD.out.kept hb5)
     obtain ⟨d0,d1,d2,d3,d4⟩:=fiveO HT4.out
     have fz:∀ p,w5.frozen? ⟨bz,p,none⟩=false:=fun p=>freeB HT4.out
     clear hb5 KB
     go_wp2
     exact bodyPost_ret (v:=.tuple #[.agg #[.slice a1 t.cols.length c1,.int .i64 t.head,.int .i64 t.foot,.slice a2 t.rows.length c2,.int .i64 t.gap],.bool false]) (by simp [results,Try.results25,go_sem,d0,d1,d2,d3,d4]) rfl ⟨a1,c1,a2,c2,_,_,by rw [HE.out],by rw [HE.out];exact OwnT.base (OwnT.since (own_lt HOD.out rfl Hur.out) (Since.set (Since.set (Since.set (Since.set (Since.set (Since.refl _ _) (p:=⟨bz,0,none⟩) hsz _) (p:=⟨bz,1,none⟩) hsz _) (p:=⟨bz,2,none⟩) hsz _) (p:=⟨bz,3,none⟩) hsz _) (p:=⟨bz,4,none⟩) hsz _)) (by omega),k_set (k_set (k_set (k_set (k_set HK0.out hl4 _) hl4 _) hl4 _) hl4 _) hl4 _⟩
end Go.Proofs.Ytggmjiddadjilao
namespace Go.Proofs.Ytggmjiddadjilao
open Go.RowKit

set_option maxRecDepth 100000 in
set_option maxHeartbeats 400000 in
theorem specBrdOk (a b:Int) (w:World) :
  Calls Try.prog 79 #[.agg #[.int .i64 a,.int .i64 b]] w fun e w'=>e=.returned (.bool (brdOkB a b))∧w'=w.alloc (.cells #[.int .i64 a,.int .i64 b] 60):=by
 by_cases h0:a=0
 ·subst h0
  go_enter Try.func79,Try.ntmps79
  go_wp2
  go_ret
  exact ⟨retB (brd_zero b).symm,rfl⟩
 by_cases h4:a=4
 ·subst h4
  go_enter Try.func79,Try.ntmps79
  go_wp2
  go_ret
  exact ⟨retB (brd_four b).symm,rfl⟩
 have e0:(a == 0)=false:=beq_eq_false_iff_ne.2 h0
 have e4:(a == 4)=false:=beq_eq_false_iff_ne.2 h4
 by_cases h:1≤a∧a≤3
 ·have hi:inB a 1 3=true:=inB_true h.1 h.2
  have HB:Hid (brdOkB a b=inB b 1 3):=brd_seen b h.1 h.2
  clear h h0 h4
  go_enter Try.func79,Try.ntmps79
  go_wp2_with (go_at_call 48;refine (l1In_any _ _ _ _).mono ?_;rintro e w' ⟨rfl,rfl⟩)
  go_ret
  exact ⟨retB HB.out.symm,rfl⟩
 ·have hi:inB a 1 3=false:=inB_false h
  have HB:Hid (brdOkB a b=false):=brd_other b h0 h4 h
  clear h h0 h4
  go_enter Try.func79,Try.ntmps79
  go_wp2_with (go_at_call 48;refine (l1In_any _ _ _ _).mono ?_;rintro e w' ⟨rfl,rfl⟩)
  go_ret
  exact ⟨retB HB.out.symm,rfl⟩
end Go.Proofs.Ytggmjiddadjilao
namespace Go.Proofs.Ytggmjiddadjilao
open Go.RowKit

set_option maxRecDepth 100000 in
set_option maxHeartbeats 1000000 in
theorem specCellOk (s:ByteArray) (c r a1 b1 a2 b2 a3 b3 a4 b4:Int) (w:World) (hs:s.size≤maxLen) :
  Calls Try.prog 47 #[.agg #[.string s,.int .i64 c,.int .i64 r,.int .i64 a1,.int .i64 b1,.int .i64 a2,.int .i64 b2,.int .i64 a3,.int .i64 b3,.int .i64 a4,.int .i64 b4]] w fun e w'=>e=.returned (.bool (cellOkB s c r a1 b1 a2 b2 a3 b3 a4 b4))∧Below w.heap.size w w':=by
 cases h0:txtOkB s
 ·
  as_aux_lemma =>
   have HB:Hid (cellOkB s c r a1 b1 a2 b2 a3 b3 a4 b4=false):=Hid.mk (by simp [cellOkB,h0])
   go_enter Try.func47,Try.ntmps47
   go_wp2_with (first | (go_at_call 78;refine (specTxtOk _ _ hs).mono ?_;rintro e w' ⟨rfl,rfl⟩) | (go_at_call 48;refine (l1In_any _ _ _ _).mono ?_;rintro e w' ⟨rfl,rfl⟩) | (go_at_call 79;refine (specBrdOk _ _ _).mono ?_;rintro e w' ⟨rfl,rfl⟩))
   go_ret
   exact ⟨retB HB.out.symm,by repeat (first | exact Below.refl _ _ | apply k_alloc)⟩
 cases h1:inB c 1 4
 ·
  as_aux_lemma =>
   have HB:Hid (cellOkB s c r a1 b1 a2 b2 a3 b3 a4 b4=false):=Hid.mk (by simp [cellOkB,h0,h1])
   go_enter Try.func47,Try.ntmps47
   go_wp2_with (first | (go_at_call 78;refine (specTxtOk _ _ hs).mono ?_;rintro e w' ⟨rfl,rfl⟩) | (go_at_call 48;refine (l1In_any _ _ _ _).mono ?_;rintro e w' ⟨rfl,rfl⟩) | (go_at_call 79;refine (specBrdOk _ _ _).mono ?_;rintro e w' ⟨rfl,rfl⟩))
   go_ret
   exact ⟨retB HB.out.symm,by repeat (first | exact Below.refl _ _ | apply k_alloc)⟩
 cases h2:inB r 1 4
 ·
  as_aux_lemma =>
   have HB:Hid (cellOkB s c r a1 b1 a2 b2 a3 b3 a4 b4=false):=Hid.mk (by simp [cellOkB,h0,h1,h2])
   go_enter Try.func47,Try.ntmps47
   go_wp2_with (first | (go_at_call 78;refine (specTxtOk _ _ hs).mono ?_;rintro e w' ⟨rfl,rfl⟩) | (go_at_call 48;refine (l1In_any _ _ _ _).mono ?_;rintro e w' ⟨rfl,rfl⟩) | (go_at_call 79;refine (specBrdOk _ _ _).mono ?_;rintro e w' ⟨rfl,rfl⟩))
   go_ret
   exact ⟨retB HB.out.symm,by repeat (first | exact Below.refl _ _ | apply k_alloc)⟩
 cases h3:brdOkB a1 b1
 ·
  as_aux_lemma =>
   have HB:Hid (cellOkB s c r a1 b1 a2 b2 a3 b3 a4 b4=false):=Hid.mk (by simp [cellOkB,h0,h1,h2,h3])
   go_enter Try.func47,Try.ntmps47
   go_wp2_with (first | (go_at_call 78;refine (specTxtOk _ _ hs).mono ?_;rintro e w' ⟨rfl,rfl⟩) | (go_at_call 48;refine (l1In_any _ _ _ _).mono ?_;rintro e w' ⟨rfl,rfl⟩) | (go_at_call 79;refine (specBrdOk _ _ _).mono ?_;rintro e w' ⟨rfl,rfl⟩))
   go_ret
   exact ⟨retB HB.out.symm,by repeat (first | exact Below.refl _ _ | apply k_alloc)⟩
 cases h4:brdOkB a2 b2
 ·
  as_aux_lemma =>
   have HB:Hid (cellOkB s c r a1 b1 a2 b2 a3 b3 a4 b4=false):=Hid.mk (by simp [cellOkB,h0,h1,h2,h3,h4])
   go_enter Try.func47,Try.ntmps47
   go_wp2_with (first | (go_at_call 78;refine (specTxtOk _ _ hs).mono ?_;rintro e w' ⟨rfl,rfl⟩) | (go_at_call 48;refine (l1In_any _ _ _ _).mono ?_;rintro e w' ⟨rfl,rfl⟩) | (go_at_call 79;refine (specBrdOk _ _ _).mono ?_;rintro e w' ⟨rfl,rfl⟩))
   go_ret
   exact ⟨retB HB.out.symm,by repeat (first | exact Below.refl _ _ | apply k_alloc)⟩
 cases h5:brdOkB a3 b3
 ·
  as_aux_lemma =>
   have HB:Hid (cellOkB s c r a1 b1 a2 b2 a3 b3 a4 b4=false):=Hid.mk (by simp [cellOkB,h0,h1,h2,h3,h4,h5])
   go_enter Try.func47,Try.ntmps47
   go_wp2_with (first | (go_at_call 78;refine (specTxtOk _ _ hs).mono ?_;rintro e w' ⟨rfl,rfl⟩) | (go_at_call 48;refine (l1In_any _ _ _ _).mono ?_;rintro e w' ⟨rfl,rfl⟩) | (go_at_call 79;refine (specBrdOk _ _ _).mono ?_;rintro e w' ⟨rfl,rfl⟩))
   go_ret
   exact ⟨retB HB.out.symm,by repeat (first | exact Below.refl _ _ | apply k_alloc)⟩
 as_aux_lemma =>
  have HB:Hid (cellOkB s c r a1 b1 a2 b2 a3 b3 a4 b4=brdOkB a4 b4):=Hid.mk (by simp [cellOkB,h0,h1,h2,h3,h4,h5])
  go_enter Try.func47,Try.ntmps47
  go_wp2_with (first | (go_at_call 78;refine (specTxtOk _ _ hs).mono ?_;rintro e w' ⟨rfl,rfl⟩) | (go_at_call 48;refine (l1In_any _ _ _ _).mono ?_;rintro e w' ⟨rfl,rfl⟩) | (go_at_call 79;refine (specBrdOk _ _ _).mono ?_;rintro e w' ⟨rfl,rfl⟩))
  go_ret
  exact ⟨retB HB.out.symm,by repeat (first | exact Below.refl _ _ | apply k_alloc)⟩
end Go.Proofs.Ytggmjiddadjilao
