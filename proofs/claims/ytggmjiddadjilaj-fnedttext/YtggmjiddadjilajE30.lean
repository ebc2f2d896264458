/-
  PROVED HERE: the law FnEdtText returns true at every code that lies in memory.
-/
import Derived.Test.YtggmjiddadjilajE29
import Derived.Test.YtggmjiddadjilajE25
import Derived.Test.YtggmjiddadjilajE27
import Derived.Test.YtggmjiddadjilajE20
import Derived.Test.YtggmjiddadjilajE26
import Derived.Test.YtggmjiddadjilajE28
import Derived.Test.YtggmjiddadjilajE18
import Derived.Test.YtggmjiddadjilajE14
import Derived.Test.YtggmjiddadjilajE22
namespace Go.Proofs.Ytggmjiddadjilaj
open Go.RowKit Go.BigFrame

theorem set5_is {w:World} {g:Nat} {t:TypeId} {x0 x1 x2 x3 x4:Value} (h:w.heap[g]?=some (.cells #[x0,x1,x2,x3,x4] t)) (u0 u1 u2 u3 u4:Value):((((w.setCell ⟨g,0,none⟩ u0).setCell ⟨g,1,none⟩ u1).setCell ⟨g,2,none⟩ u2).setCell ⟨g,3,none⟩ u3 |>.setCell ⟨g,4,none⟩ u4).heap[g]?=some (.cells #[u0,u1,u2,u3,u4] t) :=
 setB (setB (setB (setB (setB h u0) u1) u2) u3) u4
theorem own_set5 {w:World} {B:Nat} {vc vr:Value} {t:T} (h:OwnT w B vc vr t) {g:Nat} {cur:Array Value} (hg:w.heap[g]?=some (.cells cur 37)) (u0 u1 u2 u3 u4:Value):OwnT (((((w.setCell ⟨g,0,none⟩ u0).setCell ⟨g,1,none⟩ u1).setCell ⟨g,2,none⟩ u2).setCell ⟨g,3,none⟩ u3).setCell ⟨g,4,none⟩ u4) B vc vr t:=by
 obtain ⟨ur,e,h1,h2⟩:=h
 exact ⟨ur,e,row_off5 h1 hg (by decide) u0 u1 u2 u3 u4,⟨row_off5 h2.own hg (by decide) u0 u1 u2 u3 u4,fun p hp=>row_off5 (h2.cells p hp) hg (by decide) u0 u1 u2 u3 u4,h2.apart⟩⟩
structure ExJ (b1x tb bq oq bh oh bx ox r a ml cu cr:Nat) (p1:Option Addr) (q1 s1:Nat) (X t:T) (y:C) (W3:World) (L:Nat→Bool) (W:World) (v11 v12 v66 v67 v68 v69 v70 v71 v72 v73 v74 v75 v76 v77 v78 v79 v80 v81 v82:Value):Prop where
 f0:L 0=true→v67=.agg #[.slice p1 X.cols.length q1,.int .i64 X.head,.int .i64 X.foot,.slice (some ⟨bx,ox,none⟩) X.rows.length s1,.int .i64 X.gap]
 f1:L 1=true→v68=.int .i64 r
 f2:L 2=true→v69=.int .i64 a
 f3:L 3=true→v70=.pointer (some ⟨tb,3,none⟩)
 f4:L 4=true→v71=.slice (some ⟨bq,oq,none⟩) t.rows.length cr
 f5:L 5=true→v72=.int .i64 r
 f6:L 6=true→v73=.pointer (some ⟨bq,oq+r * 2,none⟩)
 f7:L 7=true→v74=.pointer (some ⟨bq,oq+r * 2,none⟩)
 f8:L 8=true→v75=.slice (some ⟨bh,oh,none⟩) ml cu
 f9:L 9=true→v76=.int .i64 a
 f10:L 10=true→v77=.pointer (some ⟨bh,oh+a * 11,none⟩)
 f11:L 11=true→v78=.pointer (some ⟨bh,oh+a * 11,none⟩)
 f12:L 12=true→v79=.string y.s
 f13:L 13=true→∃ p q r' s,v80=.tuple #[.agg #[.slice p t.cols.length q,.int .i64 t.head,.int .i64 t.foot,.slice r' t.rows.length s,.int .i64 t.gap],.bool true]∧OwnT W W3.heap.size (.slice p t.cols.length q) (.slice r' t.rows.length s) t
 f14:L 14=true→v66=v80
 f15:L 15=true→∃ p q r' s,v80=.tuple #[.agg #[.slice p t.cols.length q,.int .i64 t.head,.int .i64 t.foot,.slice r' t.rows.length s,.int .i64 t.gap],.bool true]∧v81=.agg #[.slice p t.cols.length q,.int .i64 t.head,.int .i64 t.foot,.slice r' t.rows.length s,.int .i64 t.gap]
 f16:L 16=true→v82=.bool true
 f17:L 17=true→L 18=false→∃ b,v11=.pointer (some ⟨b,0,none⟩)∧W3.heap.size≤b∧W.heap[b]?=some (.cells #[.slice none 0 0,.int .i64 0,.int .i64 0,.slice none 0 0,.int .i64 0] 37)
 f18:L 18=true→∃ b p q r' s,v11=.pointer (some ⟨b,0,none⟩)∧W3.heap.size≤b∧v80=.tuple #[.agg #[.slice p t.cols.length q,.int .i64 t.head,.int .i64 t.foot,.slice r' t.rows.length s,.int .i64 t.gap],.bool true]∧W.heap[b]?=some (.cells #[.slice p t.cols.length q,.int .i64 t.head,.int .i64 t.foot,.slice r' t.rows.length s,.int .i64 t.gap] 37)
 f19:L 19=true→v12=.bool true
 b:L 18=false→Below W3.heap.size W3 W
 bb:Below W3.heap.size W3 W
structure EyJ (b1x tb bx ox bc oc bq oq r a ml cux cr:Nat) (ac p1 p3 r3:Option Addr) (cc q1 s1 q3 s3:Nat) (X t:T) (sx:ByteArray) (W3:World) (L:Nat→Bool) (W:World) (v83 v84 v85 v86 v87 v88 v89 v90 v91 v92 v93 v94 v95 v96 v97 v98 v99 v100 v101 v102 v103 v104 v105 v106 v107 v108 v109 v110 v111 v112 v113 v2:Value):Prop where
 f0:L 0=true→v83=.agg #[.slice p1 X.cols.length q1,.int .i64 X.head,.int .i64 X.foot,.slice (some ⟨bx,ox,none⟩) X.rows.length s1,.int .i64 X.gap]
 f1:L 1=true→v84=.bool true
 f2:L 2=true→v85=.bool true
 f3:L 3=true→v86=.pointer (some ⟨b1x,3,none⟩)
 f4:L 4=true→v87=.slice (some ⟨bx,ox,none⟩) X.rows.length s1
 f5:L 5=true→v88=.int .i64 r
 f6:L 6=true→v89=.pointer (some ⟨bx,ox+r * 2,none⟩)
 f7:L 7=true→v90=.pointer (some ⟨bx,ox+r * 2,none⟩)
 f8:L 8=true→v91=.slice (some ⟨bc,oc,none⟩) ml cux
 f9:L 9=true→v92=.int .i64 a
 f10:L 10=true→v93=.pointer (some ⟨bc,oc+a * 11,none⟩)
 f11:L 11=true→v94=.pointer (some ⟨bc,oc+a * 11,none⟩)
 f12:L 12=true→v95=.string sx
 f13:L 13=true→v96=.string sx
 f14:L 14=true→v97=.bool true
 f15:L 15=true→v98=.bool true
 f16:L 16=true→v99=.bool true
 f17:L 17=true→v100=.agg #[.slice p1 X.cols.length q1,.int .i64 X.head,.int .i64 X.foot,.slice (some ⟨bx,ox,none⟩) X.rows.length s1,.int .i64 X.gap]
 f18:L 18=true→∃ vg z',v101=.agg #[.int .i64 (gOf t).rows,.int .i64 (gOf t).cols,vg]∧GsAt W z' vg (gOf t).cells
 f19:L 19=true→v102=.agg #[.slice ac t.cols.length cc,.int .i64 t.head,.int .i64 t.foot,.slice (some ⟨bq,oq,none⟩) t.rows.length cr,.int .i64 t.gap]
 f20:L 20=true→∃ vg z',v103=.agg #[.int .i64 (gOf t).rows,.int .i64 (gOf t).cols,vg]∧GsAt W z' vg (gOf t).cells
 f21:L 21=true→v104=.bool true
 f22:L 22=true→v105=.bool true
 f23:L 23=true→v106=.bool true
 f24:L 24=true→v107=.bool true
 f25:L 25=true→v108=.bool true
 f26:L 26=true→v109=.bool true
 f27:L 27=true→v110=.agg #[.slice p3 t.cols.length q3,.int .i64 t.head,.int .i64 t.foot,.slice r3 t.rows.length s3,.int .i64 t.gap]
 f28:L 28=true→v111=.agg #[.slice ac t.cols.length cc,.int .i64 t.head,.int .i64 t.foot,.slice (some ⟨bq,oq,none⟩) t.rows.length cr,.int .i64 t.gap]
 f29:L 29=true→v112=.bool true
 f30:L 30=true→v113=.bool true
 f31:L 31=true→v2=.bool true
 b:Below W3.heap.size W3 W
set_option maxRecDepth 100000 in
set_option maxHeartbeats 3000000 in
theorem lawEX_walk (A:Option Addr) (len cap:Nat) (hlen:len≤1048576) (w:World) (h:IsCode w A len cap) :
  Calls Try.prog 6 #[.slice A len cap] w fun e w'=>e=.returned (.bool true)∧Below w.heap.size w w':=by
 have hl:¬ (1048576:Int) < (len:Int):=by omega
 have hmx:Try.prog.follows .mixedOrders=true:=by kernel_rfl
 have HD:=Hid.intro h
 clear h
 go_enter Try.func6,Try.ntmps6
 go_wp2_with fail
 refine (drawEdtText_any _ _ _ _ HD.out).mono ?_
 rintro e w1 ⟨ac,ar,cc,cr,t,row,at',sx,rfl,hDr,hq1,hq2,hsx,hC1,hR1,hb1⟩
 have HK:=Hid.intro (k_alloc hb1 (.cells #[.slice ac t.cols.length cc,.int .i64 t.head,.int .i64 t.foot,.slice ar t.rows.length cr,.int .i64 t.gap] 37))
 have HT:=Hid.intro (newestB w1 (.cells #[.slice ac t.cols.length cc,.int .i64 t.head,.int .i64 t.foot,.slice ar t.rows.length cr,.int .i64 t.gap] 37))
 have C0:=Hid.intro (hC1.kept (k_alloc (Below.refl _ _) (.cells #[.slice ac t.cols.length cc,.int .i64 t.head,.int .i64 t.foot,.slice ar t.rows.length cr,.int .i64 t.gap] 37)))
 have R0:=Hid.intro (hR1.kept (k_alloc (Below.refl _ _) (.cells #[.slice ac t.cols.length cc,.int .i64 t.head,.int .i64 t.foot,.slice ar t.rows.length cr,.int .i64 t.gap] 37)))
 have HTx:=Hid.intro (txM_at hR1)
 have HDr:=Hid.intro hDr
 have hsm:sx.size≤maxLen:=by unfold maxLen;omega
 clear hC1 hR1 hb1 HD hDr
 have HTe:Hid (TxM (edText t row at' sx).1):=txM_text HTx.out hsm
 have hrow:-9223372036854775808≤row∧row≤9223372036854775807:=by omega
 have KSp:=Hid.intro (fun (a b:Option Addr) (c d:Nat) (W:World) (z:Nat) (h1:ColsAt W z (.slice a t.cols.length c) t.cols) (h2:RowsAt W z (.slice b t.rows.length d) t.rows)=>specEdtText a b c d t row at' hrow sx hsm W h1 h2)
 have KIm:=Hid.intro (fun (a b:Option Addr) (c d:Nat) (W:World) (z:Nat) (h1:ColsAt W z (.slice a t.cols.length c) t.cols) (h2:RowsAt W z (.slice b t.rows.length d) t.rows)=>implEdtText a b c d t row at' hrow sx hsm W h1 h2)
 obtain ⟨E,hE⟩:∃ E,edText t row at' sx=E:=⟨_,rfl⟩
 rw [hE] at HTe KSp KIm
 have HEq:=Hid.intro hE
 clear hE
 have hbb:(E.2 != E.2)=false:=by simp
 go_upto_region 4 with fail
 generalize w1.alloc (.cells #[.slice ac t.cols.length cc,.int .i64 t.head,.int .i64 t.foot,.slice ar t.rows.length cr,.int .i64 t.gap] 37)=W1 at HK HT C0 R0 ⊢
 generalize w1.heap.size=tb at HT ⊢
 obtain ⟨m0,m1,m2,m3,m4⟩:=fiveO HT.out
 go_wp2_with fail
 refine (KIm.out _ _ _ _ _ _ C0.out R0.out).mono ?_
 rintro e w2 ⟨p1,q1,r1,s1,d1,d2,rfl,hO,hb⟩
 have hXC:=hO.cols
 have hXR:=hO.rows HTe.out
 obtain ⟨_,_,e1,_⟩:=At.form hXC
 simp only [Value.slice.injEq] at e1
 have e1':=e1.2.1
 clear e1
 subst e1'
 obtain ⟨_,_,e2,_⟩:=At.form hXR
 simp only [Value.slice.injEq] at e2
 have e2':=e2.2.1
 clear e2
 subst e2'
 have C1:=Hid.intro hXC
 have R1:=Hid.intro hXR
 replace HK:=Hid.intro (k_trans HK.out hb)
 replace HT:=Hid.intro (box_kept HT.out hb)
 replace C0:=Hid.intro (C0.out.kept hb)
 replace R0:=Hid.intro (R0.out.kept hb)
 clear m0 m1 m2 m3 m4
 clear hb hO hXC hXR
 replace HK:=Hid.intro (k_trans HK.out (k_alloc (Below.refl _ _) (.cells #[.slice p1 E.1.cols.length q1,.int .i64 E.1.head,.int .i64 E.1.foot,.slice r1 E.1.rows.length s1,.int .i64 E.1.gap] 37)))
 replace HT:=Hid.intro (box_kept HT.out (k_alloc (Below.refl _ _) (.cells #[.slice p1 E.1.cols.length q1,.int .i64 E.1.head,.int .i64 E.1.foot,.slice r1 E.1.rows.length s1,.int .i64 E.1.gap] 37)))
 replace C0:=Hid.intro (C0.out.kept (k_alloc (Below.refl _ _) (.cells #[.slice p1 E.1.cols.length q1,.int .i64 E.1.head,.int .i64 E.1.foot,.slice r1 E.1.rows.length s1,.int .i64 E.1.gap] 37)))
 replace R0:=Hid.intro (R0.out.kept (k_alloc (Below.refl _ _) (.cells #[.slice p1 E.1.cols.length q1,.int .i64 E.1.head,.int .i64 E.1.foot,.slice r1 E.1.rows.length s1,.int .i64 E.1.gap] 37)))
 replace C1:=Hid.intro (C1.out.kept (k_alloc (Below.refl _ _) (.cells #[.slice p1 E.1.cols.length q1,.int .i64 E.1.head,.int .i64 E.1.foot,.slice r1 E.1.rows.length s1,.int .i64 E.1.gap] 37)))
 replace R1:=Hid.intro (R1.out.kept (k_alloc (Below.refl _ _) (.cells #[.slice p1 E.1.cols.length q1,.int .i64 E.1.head,.int .i64 E.1.foot,.slice r1 E.1.rows.length s1,.int .i64 E.1.gap] 37)))
 have H1:=Hid.intro (newestB w2 (.cells #[.slice p1 E.1.cols.length q1,.int .i64 E.1.head,.int .i64 E.1.foot,.slice r1 E.1.rows.length s1,.int .i64 E.1.gap] 37))
 go_upto_region 5 with fail
 generalize w2.alloc (.cells #[.slice p1 E.1.cols.length q1,.int .i64 E.1.head,.int .i64 E.1.foot,.slice r1 E.1.rows.length s1,.int .i64 E.1.gap] 37)=W2 at HK HT H1 C0 R0 C1 R1 ⊢
 generalize w2.heap.size=b1x at H1 ⊢
 obtain ⟨m0,m1,m2,m3,m4⟩:=fiveO HT.out
 go_wp2_with fail
 refine (KSp.out _ _ _ _ _ _ C0.out R0.out).mono ?_
 rintro e w3 ⟨p2,q2,r2,s2,d1,d2,rfl,hO,hb⟩
 have hXC:=hO.cols
 have hXR:=hO.rows HTe.out
 obtain ⟨_,_,e1,_⟩:=At.form hXC
 simp only [Value.slice.injEq] at e1
 have e1':=e1.2.1
 clear e1
 subst e1'
 obtain ⟨_,_,e2,_⟩:=At.form hXR
 simp only [Value.slice.injEq] at e2
 have e2':=e2.2.1
 clear e2
 subst e2'
 have C2:=Hid.intro hXC
 have R2:=Hid.intro hXR
 replace HK:=Hid.intro (k_trans HK.out hb)
 replace HT:=Hid.intro (box_kept HT.out hb)
 replace H1:=Hid.intro (box_kept H1.out hb)
 replace C0:=Hid.intro (C0.out.kept hb)
 replace R0:=Hid.intro (R0.out.kept hb)
 replace C1:=Hid.intro (C1.out.kept hb)
 replace R1:=Hid.intro (R1.out.kept hb)
 clear m0 m1 m2 m3 m4
 clear hb hO hXC hXR
 replace HK:=Hid.intro (k_trans HK.out (k_alloc (Below.refl _ _) (.cells #[.slice p2 E.1.cols.length q2,.int .i64 E.1.head,.int .i64 E.1.foot,.slice r2 E.1.rows.length s2,.int .i64 E.1.gap] 37)))
 replace HT:=Hid.intro (box_kept HT.out (k_alloc (Below.refl _ _) (.cells #[.slice p2 E.1.cols.length q2,.int .i64 E.1.head,.int .i64 E.1.foot,.slice r2 E.1.rows.length s2,.int .i64 E.1.gap] 37)))
 replace H1:=Hid.intro (box_kept H1.out (k_alloc (Below.refl _ _) (.cells #[.slice p2 E.1.cols.length q2,.int .i64 E.1.head,.int .i64 E.1.foot,.slice r2 E.1.rows.length s2,.int .i64 E.1.gap] 37)))
 replace C0:=Hid.intro (C0.out.kept (k_alloc (Below.refl _ _) (.cells #[.slice p2 E.1.cols.length q2,.int .i64 E.1.head,.int .i64 E.1.foot,.slice r2 E.1.rows.length s2,.int .i64 E.1.gap] 37)))
 replace R0:=Hid.intro (R0.out.kept (k_alloc (Below.refl _ _) (.cells #[.slice p2 E.1.cols.length q2,.int .i64 E.1.head,.int .i64 E.1.foot,.slice r2 E.1.rows.length s2,.int .i64 E.1.gap] 37)))
 replace C1:=Hid.intro (C1.out.kept (k_alloc (Below.refl _ _) (.cells #[.slice p2 E.1.cols.length q2,.int .i64 E.1.head,.int .i64 E.1.foot,.slice r2 E.1.rows.length s2,.int .i64 E.1.gap] 37)))
 replace R1:=Hid.intro (R1.out.kept (k_alloc (Below.refl _ _) (.cells #[.slice p2 E.1.cols.length q2,.int .i64 E.1.head,.int .i64 E.1.foot,.slice r2 E.1.rows.length s2,.int .i64 E.1.gap] 37)))
 replace C2:=Hid.intro (C2.out.kept (k_alloc (Below.refl _ _) (.cells #[.slice p2 E.1.cols.length q2,.int .i64 E.1.head,.int .i64 E.1.foot,.slice r2 E.1.rows.length s2,.int .i64 E.1.gap] 37)))
 replace R2:=Hid.intro (R2.out.kept (k_alloc (Below.refl _ _) (.cells #[.slice p2 E.1.cols.length q2,.int .i64 E.1.head,.int .i64 E.1.foot,.slice r2 E.1.rows.length s2,.int .i64 E.1.gap] 37)))
 have H2:=Hid.intro (newestB w3 (.cells #[.slice p2 E.1.cols.length q2,.int .i64 E.1.head,.int .i64 E.1.foot,.slice r2 E.1.rows.length s2,.int .i64 E.1.gap] 37))
 go_upto_region 6 with fail
 generalize w3.alloc (.cells #[.slice p2 E.1.cols.length q2,.int .i64 E.1.head,.int .i64 E.1.foot,.slice r2 E.1.rows.length s2,.int .i64 E.1.gap] 37)=W3 at HK HT H1 H2 C0 R0 C1 R1 C2 R2 ⊢
 generalize w3.heap.size=b2x at H2 ⊢
 obtain ⟨m0,m1,m2,m3,m4⟩:=fiveO H1.out
 obtain ⟨n0,n1,n2,n3,n4⟩:=fiveO H2.out
 go_wp2_with fail
 refine (pwTable_same _ _ E.1 _ ⟨_,_,rfl,C1.out,R1.out⟩ ⟨_,_,rfl,C2.out,R2.out⟩).mono ?_
 rintro e w4 ⟨rfl,hb⟩
 replace HK:=Hid.intro (k_trans HK.out hb)
 replace HT:=Hid.intro (box_kept HT.out hb)
 replace H1:=Hid.intro (box_kept H1.out hb)
 replace C0:=Hid.intro (C0.out.kept hb)
 replace R0:=Hid.intro (R0.out.kept hb)
 replace C1:=Hid.intro (C1.out.kept hb)
 replace R1:=Hid.intro (R1.out.kept hb)
 clear m0 m1 m2 m3 m4 n0 n1 n2 n3 n4
 clear hb H2 C2 R2 KSp KIm
 obtain ⟨m0,m1,m2,m3,m4⟩:=fiveO HT.out
 have KT:=Hid.intro (specTblOk ac ar cc cr t w4 C0.out R0.out)
 cases htk:tblB t with
 | false =>
  rw [htk] at KT
  obtain rfl:E=(zT,false):=by rw [← HEq.out,edText,if_neg (by rw [htk];simp)]
  clear htk HEq
  go_wp2_with fail
  refine KT.out.mono ?_
  rintro e w5 ⟨rfl,hb⟩
  replace HK:=Hid.intro (k_trans HK.out hb)
  replace HT:=Hid.intro (box_kept HT.out hb)
  replace H1:=Hid.intro (box_kept H1.out hb)
  replace C0:=Hid.intro (C0.out.kept hb)
  replace R0:=Hid.intro (R0.out.kept hb)
  replace C1:=Hid.intro (C1.out.kept hb)
  replace R1:=Hid.intro (R1.out.kept hb)
  clear m0 m1 m2 m3 m4
  clear hb KT
  obtain ⟨m0,m1,m2,m3,m4⟩:=fiveO H1.out
  go_wp2_with fail
  refine (pwTable_same _ _ zT _ ⟨_,_,rfl,C1.out,R1.out⟩ (z2:=0) ⟨_,_,rfl,⟨none,0,rfl,Nat.le_refl _,Nat.zero_le _,fun i hi=>absurd hi (by simp [zT])⟩,⟨none,0,rfl,Nat.le_refl _,Nat.zero_le _,fun i hi=>absurd hi (by simp [zT])⟩⟩).mono ?_
  rintro e w6 ⟨rfl,hb⟩
  replace HK:=Hid.intro (k_trans HK.out hb)
  clear m0 m1 m2 m3 m4
  clear hb
  go_wp2_with fail
  refine (pwOk_any _).mono ?_
  rintro e w7 ⟨rfl,e7⟩
  subst e7
  go_wp2
  go_ret
  exact ⟨rfl,HK.out⟩
 | true =>
  rw [htk] at KT
  have HTk:=Hid.intro htk
  clear htk
  go_wp2_with fail
  refine KT.out.mono ?_
  rintro e w5 ⟨rfl,hb⟩
  replace HK:=Hid.intro (k_trans HK.out hb)
  replace HT:=Hid.intro (box_kept HT.out hb)
  replace H1:=Hid.intro (box_kept H1.out hb)
  replace C0:=Hid.intro (C0.out.kept hb)
  replace R0:=Hid.intro (R0.out.kept hb)
  replace C1:=Hid.intro (C1.out.kept hb)
  replace R1:=Hid.intro (R1.out.kept hb)
  clear m0 m1 m2 m3 m4
  clear hb KT
  cases hpl:(hasB t row at' && txtOkB sx) with
  | false =>
   obtain rfl:E=(t,false):=by rw [← HEq.out,edText,if_pos HTk.out,if_neg (by rw [hpl];simp)]
   clear hpl HEq
   obtain ⟨m0,m1,m2,m3,m4⟩:=fiveO H1.out
   obtain ⟨n0,n1,n2,n3,n4⟩:=fiveO HT.out
   go_wp2_with fail
   refine (pwTable_same _ _ t _ ⟨_,_,rfl,C1.out,R1.out⟩ ⟨_,_,rfl,C0.out,R0.out⟩).mono ?_
   rintro e w6 ⟨rfl,hb⟩
   replace HK:=Hid.intro (k_trans HK.out hb)
   clear hb
   go_wp2
   go_ret
   exact ⟨rfl,HK.out⟩
  | true =>
   obtain rfl:E=(txT t row.toNat at'.toNat sx,true):=by rw [← HEq.out,edText,if_pos HTk.out,if_pos hpl];rfl
   rw [Bool.and_eq_true] at hpl
   obtain ⟨hpl,hsok⟩:=hpl
   obtain ⟨r,a,rfl,rfl,hr,ha⟩:=hasB_iff.1 hpl
   rw [Int.toNat_natCast,Int.toNat_natCast] at *
   have HOk:=Hid.intro (txT_ok HTk.out hr ha hsok)
   have HDx:=Hid.intro (txT_drawn HDr.out ha hsx)
   have HGq:=Hid.intro (gOf_txT HTk.out hr ha hsok)
   have HBk:=Hid.intro (txT_back HTk.out hr ha hsok)
   have HXl:=Hid.intro (txT_len t r a sx)
   have HXr:Hid (((txT t r a sx).rows.getD r dR).cells=(t.rows.getD r dR).cells.set a (txC ((t.rows.getD r dR).cells.getD a dC) sx)):=by show _=_;rw [txT_row,if_pos ⟨rfl,hr⟩]
   generalize txT t r a sx=X at *
   clear hpl HEq hbb hq1 hq2 hsok
   dsimp only at R1 H1 C1 HTe ⊢
   generalize Value.agg #[.slice ac t.cols.length cc,.int .i64 t.head,.int .i64 t.foot,.slice ar t.rows.length cr,.int .i64 t.gap]=va
   generalize Value.agg #[.slice p1 X.cols.length q1,.int .i64 X.head,.int .i64 X.foot,.slice r1 X.rows.length s1,.int .i64 X.gap]=vx
   generalize Value.agg #[.slice p2 X.cols.length q2,.int .i64 X.head,.int .i64 X.foot,.slice r2 X.rows.length s2,.int .i64 X.gap]=vw
   obtain ⟨bx,ox,sx',ex',hx1,hx2,hlx,ux,zx0,zx1,zx2⟩:=At.get R1.out (i:=r) (by rw [HXl.out];exact hr)
   simp only [Value.slice.injEq,true_and] at ex'
   obtain ⟨rfl,rfl⟩:=ex'
   rw [HXr.out] at zx2
   obtain ⟨bc,oc,cux,eux,hc1,hc2,hlc,yx0,_⟩:=At.get zx2 (i:=a) (by rw [List.length_set];exact ha)
   subst eux
   have hyx:((t.rows.getD r dR).cells.set a (txC ((t.rows.getD r dR).cells.getD a dC) sx)).getD a dC=txC ((t.rows.getD r dR).cells.getD a dC) sx:=by rw [getD_get dC (by rw [List.length_set];exact ha),List.getElem_set_self]
   rw [hyx] at yx0
   have ZT:Hid (w5.cell? ⟨bc,oc+a * 11,none⟩=some (.string sx)):=yx0.1
   rw [List.length_set] at zx0 hc1
   have ZX:=Hid.intro zx0
   clear yx0 hyx zx0 zx1 zx2
   obtain ⟨bq,oq,cr',e',hq1,hq2,hlq,u,z0,z1,z2⟩:=At.get R0.out hr
   simp only [Value.slice.injEq,true_and] at e'
   obtain ⟨rfl,rfl⟩:=e'
   obtain ⟨bh,oh,cu,eu,hh1,hh2,hlh,y0,hys⟩:=At.get z2 ha
   subst eu
   generalize hyc:(t.rows.getD r dR).cells.getD a dC=y at y0 hys HBk HXr
   generalize hml:(t.rows.getD r dR).cells.length=ml at *
   clear hyc hml z1 z2
   unfold maxLen at hq2 hh2 hx2 hc2
   obtain ⟨y0,y1,y2,y3,y4,y5,y6,y7,y8,y9,y10⟩:=y0
   go_upto_region 12 with fail
   have l1:=(Array.getElem?_eq_some_iff.1 HT.out).1
   have l2:=(Array.getElem?_eq_some_iff.1 H1.out).1
   have HZ0:=Hid.intro z0
   have HY0:=Hid.intro y0
   have KP:Hid (∀ W,Below w5.heap.size w5 W→Calls Try.prog 24 #[.agg #[.slice p1 X.cols.length q1,.int .i64 X.head,.int .i64 X.foot,.slice (some ⟨bx,ox,none⟩) X.rows.length s1,.int .i64 X.gap],.int .i64 r,.int .i64 a,.string y.s] W fun e w'=>∃ p q r' s,e=.returned (.tuple #[.agg #[.slice p t.cols.length q,.int .i64 t.head,.int .i64 t.foot,.slice r' t.rows.length s,.int .i64 t.gap],.bool true])∧OwnT w' w5.heap.size (.slice p t.cols.length q) (.slice r' t.rows.length s) t∧Below W.heap.size W w'):=fun W hW=>by
    have hk:=implEdtText p1 (some ⟨bx,ox,none⟩) q1 s1 X (r:Int) (a:Int) hrow y.s hys W (C1.out.kept hW) (R1.out.kept hW)
    rw [HBk.out] at hk
    refine hk.mono ?_
    rintro e w' ⟨p,c,r',s,d1,d2,rfl,hO,hb⟩
    obtain ⟨_,_,e1,_⟩:=At.form hO.cols
    simp only [Value.slice.injEq] at e1
    have e1':=e1.2.1
    clear e1
    subst e1'
    obtain ⟨_,_,e2,_⟩:=At.form (hO.rows HTx.out)
    simp only [Value.slice.injEq] at e2
    have e2':=e2.2.1
    clear e2
    subst e2'
    exact ⟨p,c,r',s,rfl,hO.base hW.size,hb⟩
   clear z0 y0 y1 y2 y3 y4 y5 y6 y7 y8 y9 y10 hh1
   refine wp_region_inv2 (fun L act W=>∃ v11 v12 v66 v67 v68 v69 v70 v71 v72 v73 v74 v75 v76 v77 v78 v79 v80 v81 v82:Value,act=⟨#[.slice A len cap,undef,.bool false,.pointer (some ⟨tb,0,none⟩),.int .i64 r,.int .i64 a,.string sx,.pointer (some ⟨b1x,0,none⟩),.bool true,.pointer (some ⟨b2x,0,none⟩),.bool true,v11,v12,.slice A len cap,.int .i64 len,.bool false,.tuple #[va,.int .i64 r,.int .i64 a,.string sx],.slice A len cap,.tuple #[va,.int .i64 r,.int .i64 a,.string sx],va,.int .i64 r,.int .i64 a,.string sx,.tuple #[vx,.bool true],va,.int .i64 r,.int .i64 a,.string sx,.tuple #[vx,.bool true],vx,.bool true,.tuple #[vw,.bool true],va,.int .i64 r,.int .i64 a,.string sx,.tuple #[vw,.bool true],vw,.bool true,.bool true,.bool true,.bool false,.bool false,vx,vw,.bool true,.bool false,.bool false,va,.bool true,.bool false,undef,undef,undef,undef,undef,undef,undef,undef,undef,undef,.bool true,.bool false,undef,undef,undef,v66,v67,v68,v69,v70,v71,v72,v73,v74,v75,v76,v77,v78,v79,v80,v81,v82,undef,undef,undef,undef,undef,undef,undef,undef,undef,undef,undef,undef,undef,undef,undef,undef,undef,undef,undef,undef,undef,undef,undef,undef,undef,undef,undef,undef,undef,undef,undef],[]⟩∧ExJ b1x tb bq oq bh oh bx ox r a ml cu cr p1 q1 s1 X t y w5 L W v11 v12 v66 v67 v68 v69 v70 v71 v72 v73 v74 v75 v76 v77 v78 v79 v80 v81 v82) hmx (by kernel_rfl) ?hs ?hd ?h0
   case h0=>exact ⟨_,_,_,_,_,_,_,_,_,_,_,_,_,_,_,_,_,_,_,rfl,⟨(fun h=>by cases h),(fun h=>by cases h),(fun h=>by cases h),(fun h=>by cases h),(fun h=>by cases h),(fun h=>by cases h),(fun h=>by cases h),(fun h=>by cases h),(fun h=>by cases h),(fun h=>by cases h),(fun h=>by cases h),(fun h=>by cases h),(fun h=>by cases h),(fun h=>by cases h),(fun h=>by cases h),(fun h=>by cases h),(fun h=>by cases h),(fun h=>by cases h),(fun h=>by cases h),(fun h=>by cases h),(fun _=>k_drew (Below.refl _ _)),k_drew (Below.refl _ _)⟩⟩
   case hd =>
    intro L act W hJ hall
    obtain ⟨v11,v12,v66,v67,v68,v69,v70,v71,v72,v73,v74,v75,v76,v77,v78,v79,v80,v81,v82,ha,J⟩:=hJ
    subst ha
    obtain ⟨p3,q3,r3,s3,e3,hO⟩:=J.f13 (hall 13 (by decide))
    obtain ⟨b3x,p4,q4,r4,s4,rfl,hbw,e4,hbk⟩:=J.f18 (hall 18 (by decide))
    obtain rfl:=J.f19 (hall 19 (by decide))
    have hb:=J.bb
    have e6:=e3.symm.trans e4
    simp only [Value.tuple.injEq,Array.mk.injEq,List.cons.injEq,Value.agg.injEq,Value.slice.injEq,and_true,true_and] at e6
    obtain ⟨⟨rfl,rfl⟩,rfl,rfl⟩:=e6
    clear J hall e3 e4
    have C3:=Hid.intro hO.cols
    have R3:=Hid.intro (hO.rows HTx.out)
    have H3:=Hid.intro hbk
    replace HK:=Hid.intro (k_trans HK.out hb)
    replace HT:=Hid.intro (box_kept HT.out hb)
    replace H1:=Hid.intro (box_kept H1.out hb)
    replace C0:=Hid.intro (C0.out.kept hb)
    replace R0:=Hid.intro (R0.out.kept hb)
    replace C1:=Hid.intro (C1.out.kept hb)
    replace R1:=Hid.intro (R1.out.kept hb)
    replace ZX:=Hid.intro ((hb.cell (p:=⟨bx,ox+r * 2,none⟩) hlx).trans ZX.out)
    replace ZT:=Hid.intro ((hb.cell (p:=⟨bc,oc+a * 11,none⟩) hlc).trans ZT.out)
    have hlx':=Nat.lt_of_lt_of_le hlx hb.size
    have hlc':=Nat.lt_of_lt_of_le hlc hb.size
    clear hb hO hbk hbw
    rename World=>wr
    go_upto_region 13 with fail
    have l1:=(Array.getElem?_eq_some_iff.1 HT.out).1
    have l2:=(Array.getElem?_eq_some_iff.1 H1.out).1
    have l3:=(Array.getElem?_eq_some_iff.1 H3.out).1
    have hXl:=HXl.out
    have hrX:r < X.rows.length:=by rw [hXl];exact hr
    clear hXl
    have KO:=Hid.intro (fun (W:World) (hW:Below wr.heap.size wr W)=>by have:=implTblOk p1 (some ⟨bx,ox,none⟩) q1 s1 X W (C1.out.kept hW) (R1.out.kept hW);rw [HOk.out] at this;exact this)
    have KGx:Hid (∀ (W:World),Below wr.heap.size wr W→Calls Try.prog 27 #[.agg #[.slice p1 X.cols.length q1,.int .i64 X.head,.int .i64 X.foot,.slice (some ⟨bx,ox,none⟩) X.rows.length s1,.int .i64 X.gap]] W fun e w'=>∃ vg,e=.returned (.agg #[.int .i64 (gOf t).rows,.int .i64 (gOf t).cols,vg])∧GsAt w' W.heap.size vg (gOf t).cells∧Below W.heap.size W w'):=fun W hW=>by
     have hk:=implGrdOf p1 (some ⟨bx,ox,none⟩) q1 s1 X HDx.out W (C1.out.kept hW) (R1.out.kept hW)
     rw [HGq.out] at hk
     exact hk.mono (fun e w' ⟨vg,e1,h1,h2⟩=>⟨vg,e1,h1.at (gOf_gok HDr.out),h2⟩)
    have KGt:Hid (∀ (W:World),Below wr.heap.size wr W→Calls Try.prog 27 #[.agg #[.slice ac t.cols.length cc,.int .i64 t.head,.int .i64 t.foot,.slice (some ⟨bq,oq,none⟩) t.rows.length cr,.int .i64 t.gap]] W fun e w'=>∃ vg,e=.returned (.agg #[.int .i64 (gOf t).rows,.int .i64 (gOf t).cols,vg])∧GsAt w' W.heap.size vg (gOf t).cells∧Below W.heap.size W w'):=fun W hW =>
     (implGrdOf ac (some ⟨bq,oq,none⟩) cc cr t HDr.out W (C0.out.kept hW) (R0.out.kept hW)).mono (fun e w' ⟨vg,e1,h1,h2⟩=>⟨vg,e1,h1.at (gOf_gok HDr.out),h2⟩)
    have KE:=Hid.intro (fun (W:World) (hW:Below wr.heap.size wr W)=>pwTable_same (.agg #[.slice p3 t.cols.length q3,.int .i64 t.head,.int .i64 t.foot,.slice r3 t.rows.length s3,.int .i64 t.gap]) (.agg #[.slice ac t.cols.length cc,.int .i64 t.head,.int .i64 t.foot,.slice (some ⟨bq,oq,none⟩) t.rows.length cr,.int .i64 t.gap]) t W ⟨_,_,rfl,C3.out.kept hW,R3.out.kept hW⟩ ⟨_,_,rfl,C0.out.kept hW,R0.out.kept hW⟩)
    refine wp_region_inv2 (fun L act W=>∃ v83 v84 v85 v86 v87 v88 v89 v90 v91 v92 v93 v94 v95 v96 v97 v98 v99 v100 v101 v102 v103 v104 v105 v106 v107 v108 v109 v110 v111 v112 v113 v2:Value,act=⟨#[.slice A len cap,undef,v2,.pointer (some ⟨tb,0,none⟩),.int .i64 r,.int .i64 a,.string sx,.pointer (some ⟨b1x,0,none⟩),.bool true,.pointer (some ⟨b2x,0,none⟩),.bool true,.pointer (some ⟨b3x,0,none⟩),.bool true,.slice A len cap,.int .i64 len,.bool false,.tuple #[va,.int .i64 r,.int .i64 a,.string sx],.slice A len cap,.tuple #[va,.int .i64 r,.int .i64 a,.string sx],va,.int .i64 r,.int .i64 a,.string sx,.tuple #[vx,.bool true],va,.int .i64 r,.int .i64 a,.string sx,.tuple #[vx,.bool true],vx,.bool true,.tuple #[vw,.bool true],va,.int .i64 r,.int .i64 a,.string sx,.tuple #[vw,.bool true],vw,.bool true,.bool true,.bool true,.bool false,.bool false,vx,vw,.bool true,.bool false,.bool false,va,.bool true,.bool false,undef,undef,undef,undef,undef,undef,undef,undef,undef,undef,.bool true,.bool false,undef,undef,undef,v66,v67,v68,v69,v70,v71,v72,v73,v74,v75,v76,v77,v78,v79,v80,v81,v82,v83,v84,v85,v86,v87,v88,v89,v90,v91,v92,v93,v94,v95,v96,v97,v98,v99,v100,v101,v102,v103,v104,v105,v106,v107,v108,v109,v110,v111,v112,v113],[]⟩∧EyJ b1x tb bx ox bc oc bq oq r a ml cux cr ac p1 p3 r3 cc q1 s1 q3 s3 X t sx wr L W v83 v84 v85 v86 v87 v88 v89 v90 v91 v92 v93 v94 v95 v96 v97 v98 v99 v100 v101 v102 v103 v104 v105 v106 v107 v108 v109 v110 v111 v112 v113 v2) hmx (by kernel_rfl) ?hs2 ?hd2 ?h02
    case h02=>exact ⟨_,_,_,_,_,_,_,_,_,_,_,_,_,_,_,_,_,_,_,_,_,_,_,_,_,_,_,_,_,_,_,_,rfl,⟨(fun h=>by cases h),(fun h=>by cases h),(fun h=>by cases h),(fun h=>by cases h),(fun h=>by cases h),(fun h=>by cases h),(fun h=>by cases h),(fun h=>by cases h),(fun h=>by cases h),(fun h=>by cases h),(fun h=>by cases h),(fun h=>by cases h),(fun h=>by cases h),(fun h=>by cases h),(fun h=>by cases h),(fun h=>by cases h),(fun h=>by cases h),(fun h=>by cases h),(fun h=>by cases h),(fun h=>by cases h),(fun h=>by cases h),(fun h=>by cases h),(fun h=>by cases h),(fun h=>by cases h),(fun h=>by cases h),(fun h=>by cases h),(fun h=>by cases h),(fun h=>by cases h),(fun h=>by cases h),(fun h=>by cases h),(fun h=>by cases h),(fun h=>by cases h),k_drew (Below.refl _ _)⟩⟩
    case hd2 =>
     intro L act W hJ hall
     obtain ⟨v83,v84,v85,v86,v87,v88,v89,v90,v91,v92,v93,v94,v95,v96,v97,v98,v99,v100,v101,v102,v103,v104,v105,v106,v107,v108,v109,v110,v111,v112,v113,v2,ha,J⟩:=hJ
     subst ha
     obtain rfl:=J.f31 (hall 31 (by decide))
     have HB:=Hid.intro (k_trans HK.out J.b)
     clear J hall
     go_wp2
     go_ret
     exact ⟨rfl,HB.out⟩
    case hs2 =>
     intro L act W i o hJ hcl ho hLi haft K hK
     obtain ⟨v83,v84,v85,v86,v87,v88,v89,v90,v91,v92,v93,v94,v95,v96,v97,v98,v99,v100,v101,v102,v103,v104,v105,v106,v107,v108,v109,v110,v111,v112,v113,v2,ha,J⟩:=hJ
     subst ha
     have hi':i < 32:=by
      have:=(Array.getElem?_eq_some_iff.1 ho).1
      simpa using this
     rcases (by omega:i=0∨i=1∨i=2∨i=3∨i=4∨i=5∨i=6∨i=7∨i=8∨i=9∨i=10∨i=11∨i=12∨i=13∨i=14∨i=15∨i=16∨i=17∨i=18∨i=19∨i=20∨i=21∨i=22∨i=23∨i=24∨i=25∨i=26∨i=27∨i=28∨i=29∨i=30∨i=31) with rfl | rfl | rfl | rfl | rfl | rfl | rfl | rfl | rfl | rfl | rfl | rfl | rfl | rfl | rfl | rfl | rfl | rfl | rfl | rfl | rfl | rfl | rfl | rfl | rfl | rfl | rfl | rfl | rfl | rfl | rfl | rfl
     all_goals
      simp only [List.getElem?_toArray,List.getElem?_cons_zero,List.getElem?_cons_succ,Option.some.injEq] at ho
      subst ho
      clear hi'
     ·skip
      obtain ⟨w0,w1',w2',w3',w4'⟩:=fiveO ((J.b.block _ l2).trans H1.out)
      go_simp
      exact hK _ _ ⟨_,_,_,_,_,_,_,_,_,_,_,_,_,_,_,_,_,_,_,_,_,_,_,_,_,_,_,_,_,_,_,_,rfl,⟨(fun _=>rfl),(fun h=>J.f1 (un h)),(fun h=>J.f2 (un h)),(fun h=>J.f3 (un h)),(fun h=>J.f4 (un h)),(fun h=>J.f5 (un h)),(fun h=>J.f6 (un h)),(fun h=>J.f7 (un h)),(fun h=>J.f8 (un h)),(fun h=>J.f9 (un h)),(fun h=>J.f10 (un h)),(fun h=>J.f11 (un h)),(fun h=>J.f12 (un h)),(fun h=>J.f13 (un h)),(fun h=>J.f14 (un h)),(fun h=>J.f15 (un h)),(fun h=>J.f16 (un h)),(fun h=>J.f17 (un h)),(fun h=>J.f18 (un h)),(fun h=>J.f19 (un h)),(fun h=>J.f20 (un h)),(fun h=>J.f21 (un h)),(fun h=>J.f22 (un h)),(fun h=>J.f23 (un h)),(fun h=>J.f24 (un h)),(fun h=>J.f25 (un h)),(fun h=>J.f26 (un h)),(fun h=>J.f27 (un h)),(fun h=>J.f28 (un h)),(fun h=>J.f29 (un h)),(fun h=>J.f30 (un h)),(fun h=>J.f31 (un h)),J.b⟩⟩
     ·skip
      obtain rfl:=J.f0 (haft ⟨0,.data⟩ (by simp) rfl)
      go_simp
      go_wp2_with (go_at_call 19;refine (KO.out W J.b).mono ?_;rintro e W2 ⟨rfl,hb⟩)
      exact ⟨_,_,_,_,_,_,_,_,_,_,_,_,_,_,_,_,_,_,_,_,_,_,_,_,_,_,_,_,_,_,_,_,rfl,⟨(fun h=>J.f0 (un h)),(fun _=>rfl),(fun h=>J.f2 (un h)),(fun h=>J.f3 (un h)),(fun h=>J.f4 (un h)),(fun h=>J.f5 (un h)),(fun h=>J.f6 (un h)),(fun h=>J.f7 (un h)),(fun h=>J.f8 (un h)),(fun h=>J.f9 (un h)),(fun h=>J.f10 (un h)),(fun h=>J.f11 (un h)),(fun h=>J.f12 (un h)),(fun h=>J.f13 (un h)),(fun h=>J.f14 (un h)),(fun h=>J.f15 (un h)),(fun h=>J.f16 (un h)),(fun h=>J.f17 (un h)),(fun h=>(J.f18 (un h)).elim fun vg ⟨z',e,h⟩=>⟨vg,z',e,h.kept hb⟩),(fun h=>J.f19 (un h)),(fun h=>(J.f20 (un h)).elim fun vg ⟨z',e,h⟩=>⟨vg,z',e,h.kept hb⟩),(fun h=>J.f21 (un h)),(fun h=>J.f22 (un h)),(fun h=>J.f23 (un h)),(fun h=>J.f24 (un h)),(fun h=>J.f25 (un h)),(fun h=>J.f26 (un h)),(fun h=>J.f27 (un h)),(fun h=>J.f28 (un h)),(fun h=>J.f29 (un h)),(fun h=>J.f30 (un h)),(fun h=>J.f31 (un h)),k_trans J.b hb⟩⟩
     ·skip
      obtain rfl:=J.f1 (haft ⟨1,.data⟩ (by simp) rfl)
      go_simp
      exact hK _ _ ⟨_,_,_,_,_,_,_,_,_,_,_,_,_,_,_,_,_,_,_,_,_,_,_,_,_,_,_,_,_,_,_,_,rfl,⟨(fun h=>J.f0 (un h)),(fun h=>J.f1 (un h)),(fun _=>rfl),(fun h=>J.f3 (un h)),(fun h=>J.f4 (un h)),(fun h=>J.f5 (un h)),(fun h=>J.f6 (un h)),(fun h=>J.f7 (un h)),(fun h=>J.f8 (un h)),(fun h=>J.f9 (un h)),(fun h=>J.f10 (un h)),(fun h=>J.f11 (un h)),(fun h=>J.f12 (un h)),(fun h=>J.f13 (un h)),(fun h=>J.f14 (un h)),(fun h=>J.f15 (un h)),(fun h=>J.f16 (un h)),(fun h=>J.f17 (un h)),(fun h=>J.f18 (un h)),(fun h=>J.f19 (un h)),(fun h=>J.f20 (un h)),(fun h=>J.f21 (un h)),(fun h=>J.f22 (un h)),(fun h=>J.f23 (un h)),(fun h=>J.f24 (un h)),(fun h=>J.f25 (un h)),(fun h=>J.f26 (un h)),(fun h=>J.f27 (un h)),(fun h=>J.f28 (un h)),(fun h=>J.f29 (un h)),(fun h=>J.f30 (un h)),(fun h=>J.f31 (un h)),J.b⟩⟩
     ·skip
      obtain rfl:=J.f2 (haft ⟨2,.guard⟩ (by simp) rfl)
      rw [if_pos (by rfl)]
      go_simp
      exact hK _ _ ⟨_,_,_,_,_,_,_,_,_,_,_,_,_,_,_,_,_,_,_,_,_,_,_,_,_,_,_,_,_,_,_,_,rfl,⟨(fun h=>J.f0 (un h)),(fun h=>J.f1 (un h)),(fun h=>J.f2 (un h)),(fun _=>rfl),(fun h=>J.f4 (un h)),(fun h=>J.f5 (un h)),(fun h=>J.f6 (un h)),(fun h=>J.f7 (un h)),(fun h=>J.f8 (un h)),(fun h=>J.f9 (un h)),(fun h=>J.f10 (un h)),(fun h=>J.f11 (un h)),(fun h=>J.f12 (un h)),(fun h=>J.f13 (un h)),(fun h=>J.f14 (un h)),(fun h=>J.f15 (un h)),(fun h=>J.f16 (un h)),(fun h=>J.f17 (un h)),(fun h=>J.f18 (un h)),(fun h=>J.f19 (un h)),(fun h=>J.f20 (un h)),(fun h=>J.f21 (un h)),(fun h=>J.f22 (un h)),(fun h=>J.f23 (un h)),(fun h=>J.f24 (un h)),(fun h=>J.f25 (un h)),(fun h=>J.f26 (un h)),(fun h=>J.f27 (un h)),(fun h=>J.f28 (un h)),(fun h=>J.f29 (un h)),(fun h=>J.f30 (un h)),(fun h=>J.f31 (un h)),J.b⟩⟩
     ·skip
      obtain rfl:=J.f2 (haft ⟨2,.guard⟩ (by simp) rfl)
      obtain rfl:=J.f3 (haft ⟨3,.data⟩ (by simp) rfl)
      obtain ⟨w0,w1',w2',w3',w4'⟩:=fiveO ((J.b.block _ l2).trans H1.out)
      rw [if_pos (by rfl)]
      go_simp
      exact hK _ _ ⟨_,_,_,_,_,_,_,_,_,_,_,_,_,_,_,_,_,_,_,_,_,_,_,_,_,_,_,_,_,_,_,_,rfl,⟨(fun h=>J.f0 (un h)),(fun h=>J.f1 (un h)),(fun h=>J.f2 (un h)),(fun h=>J.f3 (un h)),(fun _=>rfl),(fun h=>J.f5 (un h)),(fun h=>J.f6 (un h)),(fun h=>J.f7 (un h)),(fun h=>J.f8 (un h)),(fun h=>J.f9 (un h)),(fun h=>J.f10 (un h)),(fun h=>J.f11 (un h)),(fun h=>J.f12 (un h)),(fun h=>J.f13 (un h)),(fun h=>J.f14 (un h)),(fun h=>J.f15 (un h)),(fun h=>J.f16 (un h)),(fun h=>J.f17 (un h)),(fun h=>J.f18 (un h)),(fun h=>J.f19 (un h)),(fun h=>J.f20 (un h)),(fun h=>J.f21 (un h)),(fun h=>J.f22 (un h)),(fun h=>J.f23 (un h)),(fun h=>J.f24 (un h)),(fun h=>J.f25 (un h)),(fun h=>J.f26 (un h)),(fun h=>J.f27 (un h)),(fun h=>J.f28 (un h)),(fun h=>J.f29 (un h)),(fun h=>J.f30 (un h)),(fun h=>J.f31 (un h)),J.b⟩⟩
     ·skip
      obtain rfl:=J.f2 (haft ⟨2,.guard⟩ (by simp) rfl)
      rw [if_pos (by rfl)]
      go_simp
      exact hK _ _ ⟨_,_,_,_,_,_,_,_,_,_,_,_,_,_,_,_,_,_,_,_,_,_,_,_,_,_,_,_,_,_,_,_,rfl,⟨(fun h=>J.f0 (un h)),(fun h=>J.f1 (un h)),(fun h=>J.f2 (un h)),(fun h=>J.f3 (un h)),(fun h=>J.f4 (un h)),(fun _=>rfl),(fun h=>J.f6 (un h)),(fun h=>J.f7 (un h)),(fun h=>J.f8 (un h)),(fun h=>J.f9 (un h)),(fun h=>J.f10 (un h)),(fun h=>J.f11 (un h)),(fun h=>J.f12 (un h)),(fun h=>J.f13 (un h)),(fun h=>J.f14 (un h)),(fun h=>J.f15 (un h)),(fun h=>J.f16 (un h)),(fun h=>J.f17 (un h)),(fun h=>J.f18 (un h)),(fun h=>J.f19 (un h)),(fun h=>J.f20 (un h)),(fun h=>J.f21 (un h)),(fun h=>J.f22 (un h)),(fun h=>J.f23 (un h)),(fun h=>J.f24 (un h)),(fun h=>J.f25 (un h)),(fun h=>J.f26 (un h)),(fun h=>J.f27 (un h)),(fun h=>J.f28 (un h)),(fun h=>J.f29 (un h)),(fun h=>J.f30 (un h)),(fun h=>J.f31 (un h)),J.b⟩⟩
     ·skip
      obtain rfl:=J.f2 (haft ⟨2,.guard⟩ (by simp) rfl)
      obtain rfl:=J.f4 (haft ⟨4,.data⟩ (by simp) rfl)
      obtain rfl:=J.f5 (haft ⟨5,.data⟩ (by simp) rfl)
      rw [if_pos (by rfl)]
      go_simp
      exact hK _ _ ⟨_,_,_,_,_,_,_,_,_,_,_,_,_,_,_,_,_,_,_,_,_,_,_,_,_,_,_,_,_,_,_,_,rfl,⟨(fun h=>J.f0 (un h)),(fun h=>J.f1 (un h)),(fun h=>J.f2 (un h)),(fun h=>J.f3 (un h)),(fun h=>J.f4 (un h)),(fun h=>J.f5 (un h)),(fun _=>rfl),(fun h=>J.f7 (un h)),(fun h=>J.f8 (un h)),(fun h=>J.f9 (un h)),(fun h=>J.f10 (un h)),(fun h=>J.f11 (un h)),(fun h=>J.f12 (un h)),(fun h=>J.f13 (un h)),(fun h=>J.f14 (un h)),(fun h=>J.f15 (un h)),(fun h=>J.f16 (un h)),(fun h=>J.f17 (un h)),(fun h=>J.f18 (un h)),(fun h=>J.f19 (un h)),(fun h=>J.f20 (un h)),(fun h=>J.f21 (un h)),(fun h=>J.f22 (un h)),(fun h=>J.f23 (un h)),(fun h=>J.f24 (un h)),(fun h=>J.f25 (un h)),(fun h=>J.f26 (un h)),(fun h=>J.f27 (un h)),(fun h=>J.f28 (un h)),(fun h=>J.f29 (un h)),(fun h=>J.f30 (un h)),(fun h=>J.f31 (un h)),J.b⟩⟩
     ·skip
      obtain rfl:=J.f2 (haft ⟨2,.guard⟩ (by simp) rfl)
      obtain rfl:=J.f6 (haft ⟨6,.data⟩ (by simp) rfl)
      rw [if_pos (by rfl)]
      go_simp
      exact hK _ _ ⟨_,_,_,_,_,_,_,_,_,_,_,_,_,_,_,_,_,_,_,_,_,_,_,_,_,_,_,_,_,_,_,_,rfl,⟨(fun h=>J.f0 (un h)),(fun h=>J.f1 (un h)),(fun h=>J.f2 (un h)),(fun h=>J.f3 (un h)),(fun h=>J.f4 (un h)),(fun h=>J.f5 (un h)),(fun h=>J.f6 (un h)),(fun _=>rfl),(fun h=>J.f8 (un h)),(fun h=>J.f9 (un h)),(fun h=>J.f10 (un h)),(fun h=>J.f11 (un h)),(fun h=>J.f12 (un h)),(fun h=>J.f13 (un h)),(fun h=>J.f14 (un h)),(fun h=>J.f15 (un h)),(fun h=>J.f16 (un h)),(fun h=>J.f17 (un h)),(fun h=>J.f18 (un h)),(fun h=>J.f19 (un h)),(fun h=>J.f20 (un h)),(fun h=>J.f21 (un h)),(fun h=>J.f22 (un h)),(fun h=>J.f23 (un h)),(fun h=>J.f24 (un h)),(fun h=>J.f25 (un h)),(fun h=>J.f26 (un h)),(fun h=>J.f27 (un h)),(fun h=>J.f28 (un h)),(fun h=>J.f29 (un h)),(fun h=>J.f30 (un h)),(fun h=>J.f31 (un h)),J.b⟩⟩
     ·skip
      obtain rfl:=J.f2 (haft ⟨2,.guard⟩ (by simp) rfl)
      obtain rfl:=J.f7 (haft ⟨7,.data⟩ (by simp) rfl)
      have q0:=(J.b.cell (p:=⟨bx,ox+r * 2,none⟩) hlx').trans ZX.out
      rw [if_pos (by rfl)]
      go_simp
      exact hK _ _ ⟨_,_,_,_,_,_,_,_,_,_,_,_,_,_,_,_,_,_,_,_,_,_,_,_,_,_,_,_,_,_,_,_,rfl,⟨(fun h=>J.f0 (un h)),(fun h=>J.f1 (un h)),(fun h=>J.f2 (un h)),(fun h=>J.f3 (un h)),(fun h=>J.f4 (un h)),(fun h=>J.f5 (un h)),(fun h=>J.f6 (un h)),(fun h=>J.f7 (un h)),(fun _=>rfl),(fun h=>J.f9 (un h)),(fun h=>J.f10 (un h)),(fun h=>J.f11 (un h)),(fun h=>J.f12 (un h)),(fun h=>J.f13 (un h)),(fun h=>J.f14 (un h)),(fun h=>J.f15 (un h)),(fun h=>J.f16 (un h)),(fun h=>J.f17 (un h)),(fun h=>J.f18 (un h)),(fun h=>J.f19 (un h)),(fun h=>J.f20 (un h)),(fun h=>J.f21 (un h)),(fun h=>J.f22 (un h)),(fun h=>J.f23 (un h)),(fun h=>J.f24 (un h)),(fun h=>J.f25 (un h)),(fun h=>J.f26 (un h)),(fun h=>J.f27 (un h)),(fun h=>J.f28 (un h)),(fun h=>J.f29 (un h)),(fun h=>J.f30 (un h)),(fun h=>J.f31 (un h)),J.b⟩⟩
     ·skip
      obtain rfl:=J.f2 (haft ⟨2,.guard⟩ (by simp) rfl)
      rw [if_pos (by rfl)]
      go_simp
      exact hK _ _ ⟨_,_,_,_,_,_,_,_,_,_,_,_,_,_,_,_,_,_,_,_,_,_,_,_,_,_,_,_,_,_,_,_,rfl,⟨(fun h=>J.f0 (un h)),(fun h=>J.f1 (un h)),(fun h=>J.f2 (un h)),(fun h=>J.f3 (un h)),(fun h=>J.f4 (un h)),(fun h=>J.f5 (un h)),(fun h=>J.f6 (un h)),(fun h=>J.f7 (un h)),(fun h=>J.f8 (un h)),(fun _=>rfl),(fun h=>J.f10 (un h)),(fun h=>J.f11 (un h)),(fun h=>J.f12 (un h)),(fun h=>J.f13 (un h)),(fun h=>J.f14 (un h)),(fun h=>J.f15 (un h)),(fun h=>J.f16 (un h)),(fun h=>J.f17 (un h)),(fun h=>J.f18 (un h)),(fun h=>J.f19 (un h)),(fun h=>J.f20 (un h)),(fun h=>J.f21 (un h)),(fun h=>J.f22 (un h)),(fun h=>J.f23 (un h)),(fun h=>J.f24 (un h)),(fun h=>J.f25 (un h)),(fun h=>J.f26 (un h)),(fun h=>J.f27 (un h)),(fun h=>J.f28 (un h)),(fun h=>J.f29 (un h)),(fun h=>J.f30 (un h)),(fun h=>J.f31 (un h)),J.b⟩⟩
     ·skip
      obtain rfl:=J.f2 (haft ⟨2,.guard⟩ (by simp) rfl)
      obtain rfl:=J.f8 (haft ⟨8,.data⟩ (by simp) rfl)
      obtain rfl:=J.f9 (haft ⟨9,.data⟩ (by simp) rfl)
      rw [if_pos (by rfl)]
      go_simp
      exact hK _ _ ⟨_,_,_,_,_,_,_,_,_,_,_,_,_,_,_,_,_,_,_,_,_,_,_,_,_,_,_,_,_,_,_,_,rfl,⟨(fun h=>J.f0 (un h)),(fun h=>J.f1 (un h)),(fun h=>J.f2 (un h)),(fun h=>J.f3 (un h)),(fun h=>J.f4 (un h)),(fun h=>J.f5 (un h)),(fun h=>J.f6 (un h)),(fun h=>J.f7 (un h)),(fun h=>J.f8 (un h)),(fun h=>J.f9 (un h)),(fun _=>rfl),(fun h=>J.f11 (un h)),(fun h=>J.f12 (un h)),(fun h=>J.f13 (un h)),(fun h=>J.f14 (un h)),(fun h=>J.f15 (un h)),(fun h=>J.f16 (un h)),(fun h=>J.f17 (un h)),(fun h=>J.f18 (un h)),(fun h=>J.f19 (un h)),(fun h=>J.f20 (un h)),(fun h=>J.f21 (un h)),(fun h=>J.f22 (un h)),(fun h=>J.f23 (un h)),(fun h=>J.f24 (un h)),(fun h=>J.f25 (un h)),(fun h=>J.f26 (un h)),(fun h=>J.f27 (un h)),(fun h=>J.f28 (un h)),(fun h=>J.f29 (un h)),(fun h=>J.f30 (un h)),(fun h=>J.f31 (un h)),J.b⟩⟩
     ·skip
      obtain rfl:=J.f2 (haft ⟨2,.guard⟩ (by simp) rfl)
      obtain rfl:=J.f10 (haft ⟨10,.data⟩ (by simp) rfl)
      rw [if_pos (by rfl)]
      go_simp
      exact hK _ _ ⟨_,_,_,_,_,_,_,_,_,_,_,_,_,_,_,_,_,_,_,_,_,_,_,_,_,_,_,_,_,_,_,_,rfl,⟨(fun h=>J.f0 (un h)),(fun h=>J.f1 (un h)),(fun h=>J.f2 (un h)),(fun h=>J.f3 (un h)),(fun h=>J.f4 (un h)),(fun h=>J.f5 (un h)),(fun h=>J.f6 (un h)),(fun h=>J.f7 (un h)),(fun h=>J.f8 (un h)),(fun h=>J.f9 (un h)),(fun h=>J.f10 (un h)),(fun _=>rfl),(fun h=>J.f12 (un h)),(fun h=>J.f13 (un h)),(fun h=>J.f14 (un h)),(fun h=>J.f15 (un h)),(fun h=>J.f16 (un h)),(fun h=>J.f17 (un h)),(fun h=>J.f18 (un h)),(fun h=>J.f19 (un h)),(fun h=>J.f20 (un h)),(fun h=>J.f21 (un h)),(fun h=>J.f22 (un h)),(fun h=>J.f23 (un h)),(fun h=>J.f24 (un h)),(fun h=>J.f25 (un h)),(fun h=>J.f26 (un h)),(fun h=>J.f27 (un h)),(fun h=>J.f28 (un h)),(fun h=>J.f29 (un h)),(fun h=>J.f30 (un h)),(fun h=>J.f31 (un h)),J.b⟩⟩
     ·skip
      obtain rfl:=J.f2 (haft ⟨2,.guard⟩ (by simp) rfl)
      obtain rfl:=J.f11 (haft ⟨11,.data⟩ (by simp) rfl)
      have q0:=(J.b.cell (p:=⟨bc,oc+a * 11,none⟩) hlc').trans ZT.out
      rw [if_pos (by rfl)]
      go_simp
      exact hK _ _ ⟨_,_,_,_,_,_,_,_,_,_,_,_,_,_,_,_,_,_,_,_,_,_,_,_,_,_,_,_,_,_,_,_,rfl,⟨(fun h=>J.f0 (un h)),(fun h=>J.f1 (un h)),(fun h=>J.f2 (un h)),(fun h=>J.f3 (un h)),(fun h=>J.f4 (un h)),(fun h=>J.f5 (un h)),(fun h=>J.f6 (un h)),(fun h=>J.f7 (un h)),(fun h=>J.f8 (un h)),(fun h=>J.f9 (un h)),(fun h=>J.f10 (un h)),(fun h=>J.f11 (un h)),(fun _=>rfl),(fun h=>J.f13 (un h)),(fun h=>J.f14 (un h)),(fun h=>J.f15 (un h)),(fun h=>J.f16 (un h)),(fun h=>J.f17 (un h)),(fun h=>J.f18 (un h)),(fun h=>J.f19 (un h)),(fun h=>J.f20 (un h)),(fun h=>J.f21 (un h)),(fun h=>J.f22 (un h)),(fun h=>J.f23 (un h)),(fun h=>J.f24 (un h)),(fun h=>J.f25 (un h)),(fun h=>J.f26 (un h)),(fun h=>J.f27 (un h)),(fun h=>J.f28 (un h)),(fun h=>J.f29 (un h)),(fun h=>J.f30 (un h)),(fun h=>J.f31 (un h)),J.b⟩⟩
     ·skip
      obtain rfl:=J.f2 (haft ⟨2,.guard⟩ (by simp) rfl)
      rw [if_pos (by rfl)]
      go_simp
      exact hK _ _ ⟨_,_,_,_,_,_,_,_,_,_,_,_,_,_,_,_,_,_,_,_,_,_,_,_,_,_,_,_,_,_,_,_,rfl,⟨(fun h=>J.f0 (un h)),(fun h=>J.f1 (un h)),(fun h=>J.f2 (un h)),(fun h=>J.f3 (un h)),(fun h=>J.f4 (un h)),(fun h=>J.f5 (un h)),(fun h=>J.f6 (un h)),(fun h=>J.f7 (un h)),(fun h=>J.f8 (un h)),(fun h=>J.f9 (un h)),(fun h=>J.f10 (un h)),(fun h=>J.f11 (un h)),(fun h=>J.f12 (un h)),(fun _=>rfl),(fun h=>J.f14 (un h)),(fun h=>J.f15 (un h)),(fun h=>J.f16 (un h)),(fun h=>J.f17 (un h)),(fun h=>J.f18 (un h)),(fun h=>J.f19 (un h)),(fun h=>J.f20 (un h)),(fun h=>J.f21 (un h)),(fun h=>J.f22 (un h)),(fun h=>J.f23 (un h)),(fun h=>J.f24 (un h)),(fun h=>J.f25 (un h)),(fun h=>J.f26 (un h)),(fun h=>J.f27 (un h)),(fun h=>J.f28 (un h)),(fun h=>J.f29 (un h)),(fun h=>J.f30 (un h)),(fun h=>J.f31 (un h)),J.b⟩⟩
     ·skip
      obtain rfl:=J.f2 (haft ⟨2,.guard⟩ (by simp) rfl)
      obtain rfl:=J.f12 (haft ⟨12,.data⟩ (by simp) rfl)
      obtain rfl:=J.f13 (haft ⟨13,.data⟩ (by simp) rfl)
      rw [if_pos (by rfl)]
      go_simp
      exact hK _ _ ⟨_,_,_,_,_,_,_,_,_,_,_,_,_,_,_,_,_,_,_,_,_,_,_,_,_,_,_,_,_,_,_,_,rfl,⟨(fun h=>J.f0 (un h)),(fun h=>J.f1 (un h)),(fun h=>J.f2 (un h)),(fun h=>J.f3 (un h)),(fun h=>J.f4 (un h)),(fun h=>J.f5 (un h)),(fun h=>J.f6 (un h)),(fun h=>J.f7 (un h)),(fun h=>J.f8 (un h)),(fun h=>J.f9 (un h)),(fun h=>J.f10 (un h)),(fun h=>J.f11 (un h)),(fun h=>J.f12 (un h)),(fun h=>J.f13 (un h)),(fun _=>by first | rfl | simp),(fun h=>J.f15 (un h)),(fun h=>J.f16 (un h)),(fun h=>J.f17 (un h)),(fun h=>J.f18 (un h)),(fun h=>J.f19 (un h)),(fun h=>J.f20 (un h)),(fun h=>J.f21 (un h)),(fun h=>J.f22 (un h)),(fun h=>J.f23 (un h)),(fun h=>J.f24 (un h)),(fun h=>J.f25 (un h)),(fun h=>J.f26 (un h)),(fun h=>J.f27 (un h)),(fun h=>J.f28 (un h)),(fun h=>J.f29 (un h)),(fun h=>J.f30 (un h)),(fun h=>J.f31 (un h)),J.b⟩⟩
     ·skip
      obtain rfl:=J.f2 (haft ⟨2,.data⟩ (by simp) rfl)
      obtain rfl:=J.f14 (haft ⟨14,.data⟩ (by simp) rfl)
      go_simp
      exact hK _ _ ⟨_,_,_,_,_,_,_,_,_,_,_,_,_,_,_,_,_,_,_,_,_,_,_,_,_,_,_,_,_,_,_,_,rfl,⟨(fun h=>J.f0 (un h)),(fun h=>J.f1 (un h)),(fun h=>J.f2 (un h)),(fun h=>J.f3 (un h)),(fun h=>J.f4 (un h)),(fun h=>J.f5 (un h)),(fun h=>J.f6 (un h)),(fun h=>J.f7 (un h)),(fun h=>J.f8 (un h)),(fun h=>J.f9 (un h)),(fun h=>J.f10 (un h)),(fun h=>J.f11 (un h)),(fun h=>J.f12 (un h)),(fun h=>J.f13 (un h)),(fun h=>J.f14 (un h)),(fun _=>rfl),(fun h=>J.f16 (un h)),(fun h=>J.f17 (un h)),(fun h=>J.f18 (un h)),(fun h=>J.f19 (un h)),(fun h=>J.f20 (un h)),(fun h=>J.f21 (un h)),(fun h=>J.f22 (un h)),(fun h=>J.f23 (un h)),(fun h=>J.f24 (un h)),(fun h=>J.f25 (un h)),(fun h=>J.f26 (un h)),(fun h=>J.f27 (un h)),(fun h=>J.f28 (un h)),(fun h=>J.f29 (un h)),(fun h=>J.f30 (un h)),(fun h=>J.f31 (un h)),J.b⟩⟩
     ·skip
      obtain rfl:=J.f15 (haft ⟨15,.data⟩ (by simp) rfl)
      go_simp
      exact hK _ _ ⟨_,_,_,_,_,_,_,_,_,_,_,_,_,_,_,_,_,_,_,_,_,_,_,_,_,_,_,_,_,_,_,_,rfl,⟨(fun h=>J.f0 (un h)),(fun h=>J.f1 (un h)),(fun h=>J.f2 (un h)),(fun h=>J.f3 (un h)),(fun h=>J.f4 (un h)),(fun h=>J.f5 (un h)),(fun h=>J.f6 (un h)),(fun h=>J.f7 (un h)),(fun h=>J.f8 (un h)),(fun h=>J.f9 (un h)),(fun h=>J.f10 (un h)),(fun h=>J.f11 (un h)),(fun h=>J.f12 (un h)),(fun h=>J.f13 (un h)),(fun h=>J.f14 (un h)),(fun h=>J.f15 (un h)),(fun _=>rfl),(fun h=>J.f17 (un h)),(fun h=>J.f18 (un h)),(fun h=>J.f19 (un h)),(fun h=>J.f20 (un h)),(fun h=>J.f21 (un h)),(fun h=>J.f22 (un h)),(fun h=>J.f23 (un h)),(fun h=>J.f24 (un h)),(fun h=>J.f25 (un h)),(fun h=>J.f26 (un h)),(fun h=>J.f27 (un h)),(fun h=>J.f28 (un h)),(fun h=>J.f29 (un h)),(fun h=>J.f30 (un h)),(fun h=>J.f31 (un h)),J.b⟩⟩
     ·skip
      obtain rfl:=J.f16 (haft ⟨16,.guard⟩ (by simp) rfl)
      obtain ⟨w0,w1',w2',w3',w4'⟩:=fiveO ((J.b.block _ l2).trans H1.out)
      rw [if_pos (by rfl)]
      go_simp
      exact hK _ _ ⟨_,_,_,_,_,_,_,_,_,_,_,_,_,_,_,_,_,_,_,_,_,_,_,_,_,_,_,_,_,_,_,_,rfl,⟨(fun h=>J.f0 (un h)),(fun h=>J.f1 (un h)),(fun h=>J.f2 (un h)),(fun h=>J.f3 (un h)),(fun h=>J.f4 (un h)),(fun h=>J.f5 (un h)),(fun h=>J.f6 (un h)),(fun h=>J.f7 (un h)),(fun h=>J.f8 (un h)),(fun h=>J.f9 (un h)),(fun h=>J.f10 (un h)),(fun h=>J.f11 (un h)),(fun h=>J.f12 (un h)),(fun h=>J.f13 (un h)),(fun h=>J.f14 (un h)),(fun h=>J.f15 (un h)),(fun h=>J.f16 (un h)),(fun _=>rfl),(fun h=>J.f18 (un h)),(fun h=>J.f19 (un h)),(fun h=>J.f20 (un h)),(fun h=>J.f21 (un h)),(fun h=>J.f22 (un h)),(fun h=>J.f23 (un h)),(fun h=>J.f24 (un h)),(fun h=>J.f25 (un h)),(fun h=>J.f26 (un h)),(fun h=>J.f27 (un h)),(fun h=>J.f28 (un h)),(fun h=>J.f29 (un h)),(fun h=>J.f30 (un h)),(fun h=>J.f31 (un h)),J.b⟩⟩
     ·skip
      obtain rfl:=J.f16 (haft ⟨16,.guard⟩ (by simp) rfl)
      obtain rfl:=J.f17 (haft ⟨17,.data⟩ (by simp) rfl)
      rw [if_pos (by rfl)]
      go_simp
      go_wp2_with (go_at_call 27;refine (KGx.out W J.b).mono ?_;rintro e W2 ⟨vg,rfl,hG,hb⟩)
      exact ⟨_,_,_,_,_,_,_,_,_,_,_,_,_,_,_,_,_,_,_,_,_,_,_,_,_,_,_,_,_,_,_,_,rfl,⟨(fun h=>J.f0 (un h)),(fun h=>J.f1 (un h)),(fun h=>J.f2 (un h)),(fun h=>J.f3 (un h)),(fun h=>J.f4 (un h)),(fun h=>J.f5 (un h)),(fun h=>J.f6 (un h)),(fun h=>J.f7 (un h)),(fun h=>J.f8 (un h)),(fun h=>J.f9 (un h)),(fun h=>J.f10 (un h)),(fun h=>J.f11 (un h)),(fun h=>J.f12 (un h)),(fun h=>J.f13 (un h)),(fun h=>J.f14 (un h)),(fun h=>J.f15 (un h)),(fun h=>J.f16 (un h)),(fun h=>J.f17 (un h)),(fun _=>⟨vg,_,rfl,hG⟩),(fun h=>J.f19 (un h)),(fun h=>(J.f20 (un h)).elim fun vg ⟨z',e,h⟩=>⟨vg,z',e,h.kept hb⟩),(fun h=>J.f21 (un h)),(fun h=>J.f22 (un h)),(fun h=>J.f23 (un h)),(fun h=>J.f24 (un h)),(fun h=>J.f25 (un h)),(fun h=>J.f26 (un h)),(fun h=>J.f27 (un h)),(fun h=>J.f28 (un h)),(fun h=>J.f29 (un h)),(fun h=>J.f30 (un h)),(fun h=>J.f31 (un h)),k_trans J.b hb⟩⟩
     ·skip
      obtain rfl:=J.f16 (haft ⟨16,.guard⟩ (by simp) rfl)
      obtain ⟨w0,w1',w2',w3',w4'⟩:=fiveO ((J.b.block _ l1).trans HT.out)
      rw [if_pos (by rfl)]
      go_simp
      exact hK _ _ ⟨_,_,_,_,_,_,_,_,_,_,_,_,_,_,_,_,_,_,_,_,_,_,_,_,_,_,_,_,_,_,_,_,rfl,⟨(fun h=>J.f0 (un h)),(fun h=>J.f1 (un h)),(fun h=>J.f2 (un h)),(fun h=>J.f3 (un h)),(fun h=>J.f4 (un h)),(fun h=>J.f5 (un h)),(fun h=>J.f6 (un h)),(fun h=>J.f7 (un h)),(fun h=>J.f8 (un h)),(fun h=>J.f9 (un h)),(fun h=>J.f10 (un h)),(fun h=>J.f11 (un h)),(fun h=>J.f12 (un h)),(fun h=>J.f13 (un h)),(fun h=>J.f14 (un h)),(fun h=>J.f15 (un h)),(fun h=>J.f16 (un h)),(fun h=>J.f17 (un h)),(fun h=>J.f18 (un h)),(fun _=>rfl),(fun h=>J.f20 (un h)),(fun h=>J.f21 (un h)),(fun h=>J.f22 (un h)),(fun h=>J.f23 (un h)),(fun h=>J.f24 (un h)),(fun h=>J.f25 (un h)),(fun h=>J.f26 (un h)),(fun h=>J.f27 (un h)),(fun h=>J.f28 (un h)),(fun h=>J.f29 (un h)),(fun h=>J.f30 (un h)),(fun h=>J.f31 (un h)),J.b⟩⟩
     ·skip
      obtain rfl:=J.f16 (haft ⟨16,.guard⟩ (by simp) rfl)
      obtain rfl:=J.f19 (haft ⟨19,.data⟩ (by simp) rfl)
      rw [if_pos (by rfl)]
      go_simp
      go_wp2_with (go_at_call 27;refine (KGt.out W J.b).mono ?_;rintro e W2 ⟨vg,rfl,hG,hb⟩)
      exact ⟨_,_,_,_,_,_,_,_,_,_,_,_,_,_,_,_,_,_,_,_,_,_,_,_,_,_,_,_,_,_,_,_,rfl,⟨(fun h=>J.f0 (un h)),(fun h=>J.f1 (un h)),(fun h=>J.f2 (un h)),(fun h=>J.f3 (un h)),(fun h=>J.f4 (un h)),(fun h=>J.f5 (un h)),(fun h=>J.f6 (un h)),(fun h=>J.f7 (un h)),(fun h=>J.f8 (un h)),(fun h=>J.f9 (un h)),(fun h=>J.f10 (un h)),(fun h=>J.f11 (un h)),(fun h=>J.f12 (un h)),(fun h=>J.f13 (un h)),(fun h=>J.f14 (un h)),(fun h=>J.f15 (un h)),(fun h=>J.f16 (un h)),(fun h=>J.f17 (un h)),(fun h=>(J.f18 (un h)).elim fun vg ⟨z',e,h⟩=>⟨vg,z',e,h.kept hb⟩),(fun h=>J.f19 (un h)),(fun _=>⟨vg,_,rfl,hG⟩),(fun h=>J.f21 (un h)),(fun h=>J.f22 (un h)),(fun h=>J.f23 (un h)),(fun h=>J.f24 (un h)),(fun h=>J.f25 (un h)),(fun h=>J.f26 (un h)),(fun h=>J.f27 (un h)),(fun h=>J.f28 (un h)),(fun h=>J.f29 (un h)),(fun h=>J.f30 (un h)),(fun h=>J.f31 (un h)),k_trans J.b hb⟩⟩
     ·skip
      obtain rfl:=J.f16 (haft ⟨16,.guard⟩ (by simp) rfl)
      obtain ⟨vg1,z1',rfl,hG1⟩:=J.f18 (haft ⟨18,.data⟩ (by simp) rfl)
      obtain ⟨vg2,z2',rfl,hG2⟩:=J.f20 (haft ⟨20,.data⟩ (by simp) rfl)
      rw [if_pos (by rfl)]
      go_simp
      go_wp2_with (go_at_call 26;refine (pwGrid_any _ _ vg1 vg2 (gOf t).cells W hG1 hG2).mono ?_;rintro e W2 ⟨rfl,hb⟩)
      exact ⟨_,_,_,_,_,_,_,_,_,_,_,_,_,_,_,_,_,_,_,_,_,_,_,_,_,_,_,_,_,_,_,_,rfl,⟨(fun h=>J.f0 (un h)),(fun h=>J.f1 (un h)),(fun h=>J.f2 (un h)),(fun h=>J.f3 (un h)),(fun h=>J.f4 (un h)),(fun h=>J.f5 (un h)),(fun h=>J.f6 (un h)),(fun h=>J.f7 (un h)),(fun h=>J.f8 (un h)),(fun h=>J.f9 (un h)),(fun h=>J.f10 (un h)),(fun h=>J.f11 (un h)),(fun h=>J.f12 (un h)),(fun h=>J.f13 (un h)),(fun h=>J.f14 (un h)),(fun h=>J.f15 (un h)),(fun h=>J.f16 (un h)),(fun h=>J.f17 (un h)),(fun h=>(J.f18 (un h)).elim fun vg ⟨z',e,h⟩=>⟨vg,z',e,h.kept hb⟩),(fun h=>J.f19 (un h)),(fun h=>(J.f20 (un h)).elim fun vg ⟨z',e,h⟩=>⟨vg,z',e,h.kept hb⟩),(fun _=>rfl),(fun h=>J.f22 (un h)),(fun h=>J.f23 (un h)),(fun h=>J.f24 (un h)),(fun h=>J.f25 (un h)),(fun h=>J.f26 (un h)),(fun h=>J.f27 (un h)),(fun h=>J.f28 (un h)),(fun h=>J.f29 (un h)),(fun h=>J.f30 (un h)),(fun h=>J.f31 (un h)),k_trans J.b hb⟩⟩
     ·skip
      obtain rfl:=J.f16 (haft ⟨16,.data⟩ (by simp) rfl)
      obtain rfl:=J.f21 (haft ⟨21,.data⟩ (by simp) rfl)
      go_simp
      exact hK _ _ ⟨_,_,_,_,_,_,_,_,_,_,_,_,_,_,_,_,_,_,_,_,_,_,_,_,_,_,_,_,_,_,_,_,rfl,⟨(fun h=>J.f0 (un h)),(fun h=>J.f1 (un h)),(fun h=>J.f2 (un h)),(fun h=>J.f3 (un h)),(fun h=>J.f4 (un h)),(fun h=>J.f5 (un h)),(fun h=>J.f6 (un h)),(fun h=>J.f7 (un h)),(fun h=>J.f8 (un h)),(fun h=>J.f9 (un h)),(fun h=>J.f10 (un h)),(fun h=>J.f11 (un h)),(fun h=>J.f12 (un h)),(fun h=>J.f13 (un h)),(fun h=>J.f14 (un h)),(fun h=>J.f15 (un h)),(fun h=>J.f16 (un h)),(fun h=>J.f17 (un h)),(fun h=>J.f18 (un h)),(fun h=>J.f19 (un h)),(fun h=>J.f20 (un h)),(fun h=>J.f21 (un h)),(fun _=>rfl),(fun h=>J.f23 (un h)),(fun h=>J.f24 (un h)),(fun h=>J.f25 (un h)),(fun h=>J.f26 (un h)),(fun h=>J.f27 (un h)),(fun h=>J.f28 (un h)),(fun h=>J.f29 (un h)),(fun h=>J.f30 (un h)),(fun h=>J.f31 (un h)),J.b⟩⟩
     ·skip
      obtain rfl:=J.f22 (haft ⟨22,.data⟩ (by simp) rfl)
      go_simp
      exact hK _ _ ⟨_,_,_,_,_,_,_,_,_,_,_,_,_,_,_,_,_,_,_,_,_,_,_,_,_,_,_,_,_,_,_,_,rfl,⟨(fun h=>J.f0 (un h)),(fun h=>J.f1 (un h)),(fun h=>J.f2 (un h)),(fun h=>J.f3 (un h)),(fun h=>J.f4 (un h)),(fun h=>J.f5 (un h)),(fun h=>J.f6 (un h)),(fun h=>J.f7 (un h)),(fun h=>J.f8 (un h)),(fun h=>J.f9 (un h)),(fun h=>J.f10 (un h)),(fun h=>J.f11 (un h)),(fun h=>J.f12 (un h)),(fun h=>J.f13 (un h)),(fun h=>J.f14 (un h)),(fun h=>J.f15 (un h)),(fun h=>J.f16 (un h)),(fun h=>J.f17 (un h)),(fun h=>J.f18 (un h)),(fun h=>J.f19 (un h)),(fun h=>J.f20 (un h)),(fun h=>J.f21 (un h)),(fun h=>J.f22 (un h)),(fun _=>rfl),(fun h=>J.f24 (un h)),(fun h=>J.f25 (un h)),(fun h=>J.f26 (un h)),(fun h=>J.f27 (un h)),(fun h=>J.f28 (un h)),(fun h=>J.f29 (un h)),(fun h=>J.f30 (un h)),(fun h=>J.f31 (un h)),J.b⟩⟩
     ·skip
      obtain rfl:=J.f23 (haft ⟨23,.guard⟩ (by simp) rfl)
      rw [if_pos (by rfl)]
      go_simp
      exact hK _ _ ⟨_,_,_,_,_,_,_,_,_,_,_,_,_,_,_,_,_,_,_,_,_,_,_,_,_,_,_,_,_,_,_,_,rfl,⟨(fun h=>J.f0 (un h)),(fun h=>J.f1 (un h)),(fun h=>J.f2 (un h)),(fun h=>J.f3 (un h)),(fun h=>J.f4 (un h)),(fun h=>J.f5 (un h)),(fun h=>J.f6 (un h)),(fun h=>J.f7 (un h)),(fun h=>J.f8 (un h)),(fun h=>J.f9 (un h)),(fun h=>J.f10 (un h)),(fun h=>J.f11 (un h)),(fun h=>J.f12 (un h)),(fun h=>J.f13 (un h)),(fun h=>J.f14 (un h)),(fun h=>J.f15 (un h)),(fun h=>J.f16 (un h)),(fun h=>J.f17 (un h)),(fun h=>J.f18 (un h)),(fun h=>J.f19 (un h)),(fun h=>J.f20 (un h)),(fun h=>J.f21 (un h)),(fun h=>J.f22 (un h)),(fun h=>J.f23 (un h)),(fun _=>rfl),(fun h=>J.f25 (un h)),(fun h=>J.f26 (un h)),(fun h=>J.f27 (un h)),(fun h=>J.f28 (un h)),(fun h=>J.f29 (un h)),(fun h=>J.f30 (un h)),(fun h=>J.f31 (un h)),J.b⟩⟩
     ·skip
      obtain rfl:=J.f23 (haft ⟨23,.data⟩ (by simp) rfl)
      obtain rfl:=J.f24 (haft ⟨24,.data⟩ (by simp) rfl)
      go_simp
      exact hK _ _ ⟨_,_,_,_,_,_,_,_,_,_,_,_,_,_,_,_,_,_,_,_,_,_,_,_,_,_,_,_,_,_,_,_,rfl,⟨(fun h=>J.f0 (un h)),(fun h=>J.f1 (un h)),(fun h=>J.f2 (un h)),(fun h=>J.f3 (un h)),(fun h=>J.f4 (un h)),(fun h=>J.f5 (un h)),(fun h=>J.f6 (un h)),(fun h=>J.f7 (un h)),(fun h=>J.f8 (un h)),(fun h=>J.f9 (un h)),(fun h=>J.f10 (un h)),(fun h=>J.f11 (un h)),(fun h=>J.f12 (un h)),(fun h=>J.f13 (un h)),(fun h=>J.f14 (un h)),(fun h=>J.f15 (un h)),(fun h=>J.f16 (un h)),(fun h=>J.f17 (un h)),(fun h=>J.f18 (un h)),(fun h=>J.f19 (un h)),(fun h=>J.f20 (un h)),(fun h=>J.f21 (un h)),(fun h=>J.f22 (un h)),(fun h=>J.f23 (un h)),(fun h=>J.f24 (un h)),(fun _=>rfl),(fun h=>J.f26 (un h)),(fun h=>J.f27 (un h)),(fun h=>J.f28 (un h)),(fun h=>J.f29 (un h)),(fun h=>J.f30 (un h)),(fun h=>J.f31 (un h)),J.b⟩⟩
     ·skip
      obtain rfl:=J.f25 (haft ⟨25,.data⟩ (by simp) rfl)
      go_simp
      exact hK _ _ ⟨_,_,_,_,_,_,_,_,_,_,_,_,_,_,_,_,_,_,_,_,_,_,_,_,_,_,_,_,_,_,_,_,rfl,⟨(fun h=>J.f0 (un h)),(fun h=>J.f1 (un h)),(fun h=>J.f2 (un h)),(fun h=>J.f3 (un h)),(fun h=>J.f4 (un h)),(fun h=>J.f5 (un h)),(fun h=>J.f6 (un h)),(fun h=>J.f7 (un h)),(fun h=>J.f8 (un h)),(fun h=>J.f9 (un h)),(fun h=>J.f10 (un h)),(fun h=>J.f11 (un h)),(fun h=>J.f12 (un h)),(fun h=>J.f13 (un h)),(fun h=>J.f14 (un h)),(fun h=>J.f15 (un h)),(fun h=>J.f16 (un h)),(fun h=>J.f17 (un h)),(fun h=>J.f18 (un h)),(fun h=>J.f19 (un h)),(fun h=>J.f20 (un h)),(fun h=>J.f21 (un h)),(fun h=>J.f22 (un h)),(fun h=>J.f23 (un h)),(fun h=>J.f24 (un h)),(fun h=>J.f25 (un h)),(fun _=>rfl),(fun h=>J.f27 (un h)),(fun h=>J.f28 (un h)),(fun h=>J.f29 (un h)),(fun h=>J.f30 (un h)),(fun h=>J.f31 (un h)),J.b⟩⟩
     ·skip
      obtain rfl:=J.f26 (haft ⟨26,.guard⟩ (by simp) rfl)
      obtain ⟨w0,w1',w2',w3',w4'⟩:=fiveO ((J.b.block _ l3).trans H3.out)
      rw [if_pos (by rfl)]
      go_simp
      exact hK _ _ ⟨_,_,_,_,_,_,_,_,_,_,_,_,_,_,_,_,_,_,_,_,_,_,_,_,_,_,_,_,_,_,_,_,rfl,⟨(fun h=>J.f0 (un h)),(fun h=>J.f1 (un h)),(fun h=>J.f2 (un h)),(fun h=>J.f3 (un h)),(fun h=>J.f4 (un h)),(fun h=>J.f5 (un h)),(fun h=>J.f6 (un h)),(fun h=>J.f7 (un h)),(fun h=>J.f8 (un h)),(fun h=>J.f9 (un h)),(fun h=>J.f10 (un h)),(fun h=>J.f11 (un h)),(fun h=>J.f12 (un h)),(fun h=>J.f13 (un h)),(fun h=>J.f14 (un h)),(fun h=>J.f15 (un h)),(fun h=>J.f16 (un h)),(fun h=>J.f17 (un h)),(fun h=>J.f18 (un h)),(fun h=>J.f19 (un h)),(fun h=>J.f20 (un h)),(fun h=>J.f21 (un h)),(fun h=>J.f22 (un h)),(fun h=>J.f23 (un h)),(fun h=>J.f24 (un h)),(fun h=>J.f25 (un h)),(fun h=>J.f26 (un h)),(fun _=>rfl),(fun h=>J.f28 (un h)),(fun h=>J.f29 (un h)),(fun h=>J.f30 (un h)),(fun h=>J.f31 (un h)),J.b⟩⟩
     ·skip
      obtain rfl:=J.f26 (haft ⟨26,.guard⟩ (by simp) rfl)
      obtain ⟨w0,w1',w2',w3',w4'⟩:=fiveO ((J.b.block _ l1).trans HT.out)
      rw [if_pos (by rfl)]
      go_simp
      exact hK _ _ ⟨_,_,_,_,_,_,_,_,_,_,_,_,_,_,_,_,_,_,_,_,_,_,_,_,_,_,_,_,_,_,_,_,rfl,⟨(fun h=>J.f0 (un h)),(fun h=>J.f1 (un h)),(fun h=>J.f2 (un h)),(fun h=>J.f3 (un h)),(fun h=>J.f4 (un h)),(fun h=>J.f5 (un h)),(fun h=>J.f6 (un h)),(fun h=>J.f7 (un h)),(fun h=>J.f8 (un h)),(fun h=>J.f9 (un h)),(fun h=>J.f10 (un h)),(fun h=>J.f11 (un h)),(fun h=>J.f12 (un h)),(fun h=>J.f13 (un h)),(fun h=>J.f14 (un h)),(fun h=>J.f15 (un h)),(fun h=>J.f16 (un h)),(fun h=>J.f17 (un h)),(fun h=>J.f18 (un h)),(fun h=>J.f19 (un h)),(fun h=>J.f20 (un h)),(fun h=>J.f21 (un h)),(fun h=>J.f22 (un h)),(fun h=>J.f23 (un h)),(fun h=>J.f24 (un h)),(fun h=>J.f25 (un h)),(fun h=>J.f26 (un h)),(fun h=>J.f27 (un h)),(fun _=>rfl),(fun h=>J.f29 (un h)),(fun h=>J.f30 (un h)),(fun h=>J.f31 (un h)),J.b⟩⟩
     ·skip
      obtain rfl:=J.f26 (haft ⟨26,.guard⟩ (by simp) rfl)
      obtain rfl:=J.f27 (haft ⟨27,.data⟩ (by simp) rfl)
      obtain rfl:=J.f28 (haft ⟨28,.data⟩ (by simp) rfl)
      rw [if_pos (by rfl)]
      go_simp
      go_wp2_with (go_at_call 16;refine (KE.out W J.b).mono ?_;rintro e W2 ⟨rfl,hb⟩)
      exact ⟨_,_,_,_,_,_,_,_,_,_,_,_,_,_,_,_,_,_,_,_,_,_,_,_,_,_,_,_,_,_,_,_,rfl,⟨(fun h=>J.f0 (un h)),(fun h=>J.f1 (un h)),(fun h=>J.f2 (un h)),(fun h=>J.f3 (un h)),(fun h=>J.f4 (un h)),(fun h=>J.f5 (un h)),(fun h=>J.f6 (un h)),(fun h=>J.f7 (un h)),(fun h=>J.f8 (un h)),(fun h=>J.f9 (un h)),(fun h=>J.f10 (un h)),(fun h=>J.f11 (un h)),(fun h=>J.f12 (un h)),(fun h=>J.f13 (un h)),(fun h=>J.f14 (un h)),(fun h=>J.f15 (un h)),(fun h=>J.f16 (un h)),(fun h=>J.f17 (un h)),(fun h=>(J.f18 (un h)).elim fun vg ⟨z',e,h⟩=>⟨vg,z',e,h.kept hb⟩),(fun h=>J.f19 (un h)),(fun h=>(J.f20 (un h)).elim fun vg ⟨z',e,h⟩=>⟨vg,z',e,h.kept hb⟩),(fun h=>J.f21 (un h)),(fun h=>J.f22 (un h)),(fun h=>J.f23 (un h)),(fun h=>J.f24 (un h)),(fun h=>J.f25 (un h)),(fun h=>J.f26 (un h)),(fun h=>J.f27 (un h)),(fun h=>J.f28 (un h)),(fun _=>rfl),(fun h=>J.f30 (un h)),(fun h=>J.f31 (un h)),k_trans J.b hb⟩⟩
     ·skip
      obtain rfl:=J.f26 (haft ⟨26,.data⟩ (by simp) rfl)
      obtain rfl:=J.f29 (haft ⟨29,.data⟩ (by simp) rfl)
      go_simp
      exact hK _ _ ⟨_,_,_,_,_,_,_,_,_,_,_,_,_,_,_,_,_,_,_,_,_,_,_,_,_,_,_,_,_,_,_,_,rfl,⟨(fun h=>J.f0 (un h)),(fun h=>J.f1 (un h)),(fun h=>J.f2 (un h)),(fun h=>J.f3 (un h)),(fun h=>J.f4 (un h)),(fun h=>J.f5 (un h)),(fun h=>J.f6 (un h)),(fun h=>J.f7 (un h)),(fun h=>J.f8 (un h)),(fun h=>J.f9 (un h)),(fun h=>J.f10 (un h)),(fun h=>J.f11 (un h)),(fun h=>J.f12 (un h)),(fun h=>J.f13 (un h)),(fun h=>J.f14 (un h)),(fun h=>J.f15 (un h)),(fun h=>J.f16 (un h)),(fun h=>J.f17 (un h)),(fun h=>J.f18 (un h)),(fun h=>J.f19 (un h)),(fun h=>J.f20 (un h)),(fun h=>J.f21 (un h)),(fun h=>J.f22 (un h)),(fun h=>J.f23 (un h)),(fun h=>J.f24 (un h)),(fun h=>J.f25 (un h)),(fun h=>J.f26 (un h)),(fun h=>J.f27 (un h)),(fun h=>J.f28 (un h)),(fun h=>J.f29 (un h)),(fun _=>rfl),(fun h=>J.f31 (un h)),J.b⟩⟩
     ·skip
      obtain rfl:=J.f30 (haft ⟨30,.data⟩ (by simp) rfl)
      go_simp
      exact hK _ _ ⟨_,_,_,_,_,_,_,_,_,_,_,_,_,_,_,_,_,_,_,_,_,_,_,_,_,_,_,_,_,_,_,_,rfl,⟨(fun h=>J.f0 (un h)),(fun h=>J.f1 (un h)),(fun h=>J.f2 (un h)),(fun h=>J.f3 (un h)),(fun h=>J.f4 (un h)),(fun h=>J.f5 (un h)),(fun h=>J.f6 (un h)),(fun h=>J.f7 (un h)),(fun h=>J.f8 (un h)),(fun h=>J.f9 (un h)),(fun h=>J.f10 (un h)),(fun h=>J.f11 (un h)),(fun h=>J.f12 (un h)),(fun h=>J.f13 (un h)),(fun h=>J.f14 (un h)),(fun h=>J.f15 (un h)),(fun h=>J.f16 (un h)),(fun h=>J.f17 (un h)),(fun h=>J.f18 (un h)),(fun h=>J.f19 (un h)),(fun h=>J.f20 (un h)),(fun h=>J.f21 (un h)),(fun h=>J.f22 (un h)),(fun h=>J.f23 (un h)),(fun h=>J.f24 (un h)),(fun h=>J.f25 (un h)),(fun h=>J.f26 (un h)),(fun h=>J.f27 (un h)),(fun h=>J.f28 (un h)),(fun h=>J.f29 (un h)),(fun h=>J.f30 (un h)),(fun _=>rfl),J.b⟩⟩
   case hs =>
    intro L act W i o hJ hcl ho hLi haft K hK
    obtain ⟨v11,v12,v66,v67,v68,v69,v70,v71,v72,v73,v74,v75,v76,v77,v78,v79,v80,v81,v82,ha,J⟩:=hJ
    subst ha
    have hi':i < 20:=by
     have:=(Array.getElem?_eq_some_iff.1 ho).1
     simpa using this
    rcases (by omega:i=0∨i=1∨i=2∨i=3∨i=4∨i=5∨i=6∨i=7∨i=8∨i=9∨i=10∨i=11∨i=12∨i=13∨i=14∨i=15∨i=16∨i=17∨i=18∨i=19) with rfl | rfl | rfl | rfl | rfl | rfl | rfl | rfl | rfl | rfl | rfl | rfl | rfl | rfl | rfl | rfl | rfl | rfl | rfl | rfl
    all_goals
     simp only [List.getElem?_toArray,List.getElem?_cons_zero,List.getElem?_cons_succ,Option.some.injEq] at ho
     subst ho
     clear hi'
    ·skip
     have hN:=(hcl 18 15 (by kernel_rfl) (hcl 15 14 (by kernel_rfl) (hcl 14 13 (by kernel_rfl) (hcl 13 0 (by kernel_rfl) hLi))))
     have hB:=J.b hN
     obtain ⟨q0,q1',q2,q3,q4⟩:=fiveO ((hB.block _ l2).trans H1.out)
     go_simp
     exact hK _ _ ⟨_,_,_,_,_,_,_,_,_,_,_,_,_,_,_,_,_,_,_,rfl,⟨(fun _=>rfl),(fun h=>J.f1 (un h)),(fun h=>J.f2 (un h)),(fun h=>J.f3 (un h)),(fun h=>J.f4 (un h)),(fun h=>J.f5 (un h)),(fun h=>J.f6 (un h)),(fun h=>J.f7 (un h)),(fun h=>J.f8 (un h)),(fun h=>J.f9 (un h)),(fun h=>J.f10 (un h)),(fun h=>J.f11 (un h)),(fun h=>J.f12 (un h)),(fun h=>absurd (((hcl 13 0 (by kernel_rfl) hLi)).symm.trans (un h)) (by simp)),(fun h=>absurd (((hcl 14 13 (by kernel_rfl) (hcl 13 0 (by kernel_rfl) hLi))).symm.trans (un h)) (by simp)),(fun h=>absurd (((hcl 15 14 (by kernel_rfl) (hcl 14 13 (by kernel_rfl) (hcl 13 0 (by kernel_rfl) hLi)))).symm.trans (un h)) (by simp)),(fun h=>absurd (((hcl 16 14 (by kernel_rfl) (hcl 14 13 (by kernel_rfl) (hcl 13 0 (by kernel_rfl) hLi)))).symm.trans (un h)) (by simp)),(fun h h2=>(J.f17 (un h) (un h2))),(fun h=>absurd (((hcl 18 15 (by kernel_rfl) (hcl 15 14 (by kernel_rfl) (hcl 14 13 (by kernel_rfl) (hcl 13 0 (by kernel_rfl) hLi))))).symm.trans (un h)) (by simp)),(fun h=>absurd (((hcl 19 16 (by kernel_rfl) (hcl 16 14 (by kernel_rfl) (hcl 14 13 (by kernel_rfl) (hcl 13 0 (by kernel_rfl) hLi))))).symm.trans (un h)) (by simp)),(fun _=>hB),J.bb⟩⟩
    ·skip
     have hN:=(hcl 18 15 (by kernel_rfl) (hcl 15 14 (by kernel_rfl) (hcl 14 13 (by kernel_rfl) (hcl 13 1 (by kernel_rfl) hLi))))
     have hB:=J.b hN
     go_simp
     exact hK _ _ ⟨_,_,_,_,_,_,_,_,_,_,_,_,_,_,_,_,_,_,_,rfl,⟨(fun h=>J.f0 (un h)),(fun _=>rfl),(fun h=>J.f2 (un h)),(fun h=>J.f3 (un h)),(fun h=>J.f4 (un h)),(fun h=>J.f5 (un h)),(fun h=>J.f6 (un h)),(fun h=>J.f7 (un h)),(fun h=>J.f8 (un h)),(fun h=>J.f9 (un h)),(fun h=>J.f10 (un h)),(fun h=>J.f11 (un h)),(fun h=>J.f12 (un h)),(fun h=>absurd (((hcl 13 1 (by kernel_rfl) hLi)).symm.trans (un h)) (by simp)),(fun h=>absurd (((hcl 14 13 (by kernel_rfl) (hcl 13 1 (by kernel_rfl) hLi))).symm.trans (un h)) (by simp)),(fun h=>absurd (((hcl 15 14 (by kernel_rfl) (hcl 14 13 (by kernel_rfl) (hcl 13 1 (by kernel_rfl) hLi)))).symm.trans (un h)) (by simp)),(fun h=>absurd (((hcl 16 14 (by kernel_rfl) (hcl 14 13 (by kernel_rfl) (hcl 13 1 (by kernel_rfl) hLi)))).symm.trans (un h)) (by simp)),(fun h h2=>(J.f17 (un h) (un h2))),(fun h=>absurd (((hcl 18 15 (by kernel_rfl) (hcl 15 14 (by kernel_rfl) (hcl 14 13 (by kernel_rfl) (hcl 13 1 (by kernel_rfl) hLi))))).symm.trans (un h)) (by simp)),(fun h=>absurd (((hcl 19 16 (by kernel_rfl) (hcl 16 14 (by kernel_rfl) (hcl 14 13 (by kernel_rfl) (hcl 13 1 (by kernel_rfl) hLi))))).symm.trans (un h)) (by simp)),(fun _=>hB),J.bb⟩⟩
    ·skip
     have hN:=(hcl 18 15 (by kernel_rfl) (hcl 15 14 (by kernel_rfl) (hcl 14 13 (by kernel_rfl) (hcl 13 2 (by kernel_rfl) hLi))))
     have hB:=J.b hN
     go_simp
     exact hK _ _ ⟨_,_,_,_,_,_,_,_,_,_,_,_,_,_,_,_,_,_,_,rfl,⟨(fun h=>J.f0 (un h)),(fun h=>J.f1 (un h)),(fun _=>rfl),(fun h=>J.f3 (un h)),(fun h=>J.f4 (un h)),(fun h=>J.f5 (un h)),(fun h=>J.f6 (un h)),(fun h=>J.f7 (un h)),(fun h=>J.f8 (un h)),(fun h=>J.f9 (un h)),(fun h=>J.f10 (un h)),(fun h=>J.f11 (un h)),(fun h=>J.f12 (un h)),(fun h=>absurd (((hcl 13 2 (by kernel_rfl) hLi)).symm.trans (un h)) (by simp)),(fun h=>absurd (((hcl 14 13 (by kernel_rfl) (hcl 13 2 (by kernel_rfl) hLi))).symm.trans (un h)) (by simp)),(fun h=>absurd (((hcl 15 14 (by kernel_rfl) (hcl 14 13 (by kernel_rfl) (hcl 13 2 (by kernel_rfl) hLi)))).symm.trans (un h)) (by simp)),(fun h=>absurd (((hcl 16 14 (by kernel_rfl) (hcl 14 13 (by kernel_rfl) (hcl 13 2 (by kernel_rfl) hLi)))).symm.trans (un h)) (by simp)),(fun h h2=>(J.f17 (un h) (un h2))),(fun h=>absurd (((hcl 18 15 (by kernel_rfl) (hcl 15 14 (by kernel_rfl) (hcl 14 13 (by kernel_rfl) (hcl 13 2 (by kernel_rfl) hLi))))).symm.trans (un h)) (by simp)),(fun h=>absurd (((hcl 19 16 (by kernel_rfl) (hcl 16 14 (by kernel_rfl) (hcl 14 13 (by kernel_rfl) (hcl 13 2 (by kernel_rfl) hLi))))).symm.trans (un h)) (by simp)),(fun _=>hB),J.bb⟩⟩
    ·skip
     have hN:=(hcl 18 15 (by kernel_rfl) (hcl 15 14 (by kernel_rfl) (hcl 14 13 (by kernel_rfl) (hcl 13 12 (by kernel_rfl) (hcl 12 11 (by kernel_rfl) (hcl 11 10 (by kernel_rfl) (hcl 10 8 (by kernel_rfl) (hcl 8 7 (by kernel_rfl) (hcl 7 6 (by kernel_rfl) (hcl 6 4 (by kernel_rfl) (hcl 4 3 (by kernel_rfl) hLi)))))))))))
     have hB:=J.b hN
     go_simp
     exact hK _ _ ⟨_,_,_,_,_,_,_,_,_,_,_,_,_,_,_,_,_,_,_,rfl,⟨(fun h=>J.f0 (un h)),(fun h=>J.f1 (un h)),(fun h=>J.f2 (un h)),(fun _=>rfl),(fun h=>absurd (((hcl 4 3 (by kernel_rfl) hLi)).symm.trans (un h)) (by simp)),(fun h=>J.f5 (un h)),(fun h=>absurd (((hcl 6 4 (by kernel_rfl) (hcl 4 3 (by kernel_rfl) hLi))).symm.trans (un h)) (by simp)),(fun h=>absurd (((hcl 7 6 (by kernel_rfl) (hcl 6 4 (by kernel_rfl) (hcl 4 3 (by kernel_rfl) hLi)))).symm.trans (un h)) (by simp)),(fun h=>absurd (((hcl 8 7 (by kernel_rfl) (hcl 7 6 (by kernel_rfl) (hcl 6 4 (by kernel_rfl) (hcl 4 3 (by kernel_rfl) hLi))))).symm.trans (un h)) (by simp)),(fun h=>J.f9 (un h)),(fun h=>absurd (((hcl 10 8 (by kernel_rfl) (hcl 8 7 (by kernel_rfl) (hcl 7 6 (by kernel_rfl) (hcl 6 4 (by kernel_rfl) (hcl 4 3 (by kernel_rfl) hLi)))))).symm.trans (un h)) (by simp)),(fun h=>absurd (((hcl 11 10 (by kernel_rfl) (hcl 10 8 (by kernel_rfl) (hcl 8 7 (by kernel_rfl) (hcl 7 6 (by kernel_rfl) (hcl 6 4 (by kernel_rfl) (hcl 4 3 (by kernel_rfl) hLi))))))).symm.trans (un h)) (by simp)),(fun h=>absurd (((hcl 12 11 (by kernel_rfl) (hcl 11 10 (by kernel_rfl) (hcl 10 8 (by kernel_rfl) (hcl 8 7 (by kernel_rfl) (hcl 7 6 (by kernel_rfl) (hcl 6 4 (by kernel_rfl) (hcl 4 3 (by kernel_rfl) hLi)))))))).symm.trans (un h)) (by simp)),(fun h=>absurd (((hcl 13 12 (by kernel_rfl) (hcl 12 11 (by kernel_rfl) (hcl 11 10 (by kernel_rfl) (hcl 10 8 (by kernel_rfl) (hcl 8 7 (by kernel_rfl) (hcl 7 6 (by kernel_rfl) (hcl 6 4 (by kernel_rfl) (hcl 4 3 (by kernel_rfl) hLi))))))))).symm.trans (un h)) (by simp)),(fun h=>absurd (((hcl 14 13 (by kernel_rfl) (hcl 13 12 (by kernel_rfl) (hcl 12 11 (by kernel_rfl) (hcl 11 10 (by kernel_rfl) (hcl 10 8 (by kernel_rfl) (hcl 8 7 (by kernel_rfl) (hcl 7 6 (by kernel_rfl) (hcl 6 4 (by kernel_rfl) (hcl 4 3 (by kernel_rfl) hLi)))))))))).symm.trans (un h)) (by simp)),(fun h=>absurd (((hcl 15 14 (by kernel_rfl) (hcl 14 13 (by kernel_rfl) (hcl 13 12 (by kernel_rfl) (hcl 12 11 (by kernel_rfl) (hcl 11 10 (by kernel_rfl) (hcl 10 8 (by kernel_rfl) (hcl 8 7 (by kernel_rfl) (hcl 7 6 (by kernel_rfl) (hcl 6 4 (by kernel_rfl) (hcl 4 3 (by kernel_rfl) hLi))))))))))).symm.trans (un h)) (by simp)),(fun h=>absurd (((hcl 16 14 (by kernel_rfl) (hcl 14 13 (by kernel_rfl) (hcl 13 12 (by kernel_rfl) (hcl 12 11 (by kernel_rfl) (hcl 11 10 (by kernel_rfl) (hcl 10 8 (by kernel_rfl) (hcl 8 7 (by kernel_rfl) (hcl 7 6 (by kernel_rfl) (hcl 6 4 (by kernel_rfl) (hcl 4 3 (by kernel_rfl) hLi))))))))))).symm.trans (un h)) (by simp)),(fun h h2=>(J.f17 (un h) (un h2))),(fun h=>absurd (((hcl 18 15 (by kernel_rfl) (hcl 15 14 (by kernel_rfl) (hcl 14 13 (by kernel_rfl) (hcl 13 12 (by kernel_rfl) (hcl 12 11 (by kernel_rfl) (hcl 11 10 (by kernel_rfl) (hcl 10 8 (by kernel_rfl) (hcl 8 7 (by kernel_rfl) (hcl 7 6 (by kernel_rfl) (hcl 6 4 (by kernel_rfl) (hcl 4 3 (by kernel_rfl) hLi)))))))))))).symm.trans (un h)) (by simp)),(fun h=>absurd (((hcl 19 16 (by kernel_rfl) (hcl 16 14 (by kernel_rfl) (hcl 14 13 (by kernel_rfl) (hcl 13 12 (by kernel_rfl) (hcl 12 11 (by kernel_rfl) (hcl 11 10 (by kernel_rfl) (hcl 10 8 (by kernel_rfl) (hcl 8 7 (by kernel_rfl) (hcl 7 6 (by kernel_rfl) (hcl 6 4 (by kernel_rfl) (hcl 4 3 (by kernel_rfl) hLi)))))))))))).symm.trans (un h)) (by simp)),(fun _=>hB),J.bb⟩⟩
    ·skip
     have hN:=(hcl 18 15 (by kernel_rfl) (hcl 15 14 (by kernel_rfl) (hcl 14 13 (by kernel_rfl) (hcl 13 12 (by kernel_rfl) (hcl 12 11 (by kernel_rfl) (hcl 11 10 (by kernel_rfl) (hcl 10 8 (by kernel_rfl) (hcl 8 7 (by kernel_rfl) (hcl 7 6 (by kernel_rfl) (hcl 6 4 (by kernel_rfl) hLi))))))))))
     have hB:=J.b hN
     obtain rfl:=J.f3 (haft ⟨3,.data⟩ (by simp) rfl)
     obtain ⟨q0,q1',q2,q3,q4⟩:=fiveO ((hB.block _ l1).trans HT.out)
     go_simp
     exact hK _ _ ⟨_,_,_,_,_,_,_,_,_,_,_,_,_,_,_,_,_,_,_,rfl,⟨(fun h=>J.f0 (un h)),(fun h=>J.f1 (un h)),(fun h=>J.f2 (un h)),(fun h=>J.f3 (un h)),(fun _=>rfl),(fun h=>J.f5 (un h)),(fun h=>absurd (((hcl 6 4 (by kernel_rfl) hLi)).symm.trans (un h)) (by simp)),(fun h=>absurd (((hcl 7 6 (by kernel_rfl) (hcl 6 4 (by kernel_rfl) hLi))).symm.trans (un h)) (by simp)),(fun h=>absurd (((hcl 8 7 (by kernel_rfl) (hcl 7 6 (by kernel_rfl) (hcl 6 4 (by kernel_rfl) hLi)))).symm.trans (un h)) (by simp)),(fun h=>J.f9 (un h)),(fun h=>absurd (((hcl 10 8 (by kernel_rfl) (hcl 8 7 (by kernel_rfl) (hcl 7 6 (by kernel_rfl) (hcl 6 4 (by kernel_rfl) hLi))))).symm.trans (un h)) (by simp)),(fun h=>absurd (((hcl 11 10 (by kernel_rfl) (hcl 10 8 (by kernel_rfl) (hcl 8 7 (by kernel_rfl) (hcl 7 6 (by kernel_rfl) (hcl 6 4 (by kernel_rfl) hLi)))))).symm.trans (un h)) (by simp)),(fun h=>absurd (((hcl 12 11 (by kernel_rfl) (hcl 11 10 (by kernel_rfl) (hcl 10 8 (by kernel_rfl) (hcl 8 7 (by kernel_rfl) (hcl 7 6 (by kernel_rfl) (hcl 6 4 (by kernel_rfl) hLi))))))).symm.trans (un h)) (by simp)),(fun h=>absurd (((hcl 13 12 (by kernel_rfl) (hcl 12 11 (by kernel_rfl) (hcl 11 10 (by kernel_rfl) (hcl 10 8 (by kernel_rfl) (hcl 8 7 (by kernel_rfl) (hcl 7 6 (by kernel_rfl) (hcl 6 4 (by kernel_rfl) hLi)))))))).symm.trans (un h)) (by simp)),(fun h=>absurd (((hcl 14 13 (by kernel_rfl) (hcl 13 12 (by kernel_rfl) (hcl 12 11 (by kernel_rfl) (hcl 11 10 (by kernel_rfl) (hcl 10 8 (by kernel_rfl) (hcl 8 7 (by kernel_rfl) (hcl 7 6 (by kernel_rfl) (hcl 6 4 (by kernel_rfl) hLi))))))))).symm.trans (un h)) (by simp)),(fun h=>absurd (((hcl 15 14 (by kernel_rfl) (hcl 14 13 (by kernel_rfl) (hcl 13 12 (by kernel_rfl) (hcl 12 11 (by kernel_rfl) (hcl 11 10 (by kernel_rfl) (hcl 10 8 (by kernel_rfl) (hcl 8 7 (by kernel_rfl) (hcl 7 6 (by kernel_rfl) (hcl 6 4 (by kernel_rfl) hLi)))))))))).symm.trans (un h)) (by simp)),(fun h=>absurd (((hcl 16 14 (by kernel_rfl) (hcl 14 13 (by kernel_rfl) (hcl 13 12 (by kernel_rfl) (hcl 12 11 (by kernel_rfl) (hcl 11 10 (by kernel_rfl) (hcl 10 8 (by kernel_rfl) (hcl 8 7 (by kernel_rfl) (hcl 7 6 (by kernel_rfl) (hcl 6 4 (by kernel_rfl) hLi)))))))))).symm.trans (un h)) (by simp)),(fun h h2=>(J.f17 (un h) (un h2))),(fun h=>absurd (((hcl 18 15 (by kernel_rfl) (hcl 15 14 (by kernel_rfl) (hcl 14 13 (by kernel_rfl) (hcl 13 12 (by kernel_rfl) (hcl 12 11 (by kernel_rfl) (hcl 11 10 (by kernel_rfl) (hcl 10 8 (by kernel_rfl) (hcl 8 7 (by kernel_rfl) (hcl 7 6 (by kernel_rfl) (hcl 6 4 (by kernel_rfl) hLi))))))))))).symm.trans (un h)) (by simp)),(fun h=>absurd (((hcl 19 16 (by kernel_rfl) (hcl 16 14 (by kernel_rfl) (hcl 14 13 (by kernel_rfl) (hcl 13 12 (by kernel_rfl) (hcl 12 11 (by kernel_rfl) (hcl 11 10 (by kernel_rfl) (hcl 10 8 (by kernel_rfl) (hcl 8 7 (by kernel_rfl) (hcl 7 6 (by kernel_rfl) (hcl 6 4 (by kernel_rfl) hLi))))))))))).symm.trans (un h)) (by simp)),(fun _=>hB),J.bb⟩⟩
    ·skip
     have hN:=(hcl 18 15 (by kernel_rfl) (hcl 15 14 (by kernel_rfl) (hcl 14 13 (by kernel_rfl) (hcl 13 12 (by kernel_rfl) (hcl 12 11 (by kernel_rfl) (hcl 11 10 (by kernel_rfl) (hcl 10 8 (by kernel_rfl) (hcl 8 7 (by kernel_rfl) (hcl 7 6 (by kernel_rfl) (hcl 6 5 (by kernel_rfl) hLi))))))))))
     have hB:=J.b hN
     go_simp
     exact hK _ _ ⟨_,_,_,_,_,_,_,_,_,_,_,_,_,_,_,_,_,_,_,rfl,⟨(fun h=>J.f0 (un h)),(fun h=>J.f1 (un h)),(fun h=>J.f2 (un h)),(fun h=>J.f3 (un h)),(fun h=>J.f4 (un h)),(fun _=>rfl),(fun h=>absurd (((hcl 6 5 (by kernel_rfl) hLi)).symm.trans (un h)) (by simp)),(fun h=>absurd (((hcl 7 6 (by kernel_rfl) (hcl 6 5 (by kernel_rfl) hLi))).symm.trans (un h)) (by simp)),(fun h=>absurd (((hcl 8 7 (by kernel_rfl) (hcl 7 6 (by kernel_rfl) (hcl 6 5 (by kernel_rfl) hLi)))).symm.trans (un h)) (by simp)),(fun h=>J.f9 (un h)),(fun h=>absurd (((hcl 10 8 (by kernel_rfl) (hcl 8 7 (by kernel_rfl) (hcl 7 6 (by kernel_rfl) (hcl 6 5 (by kernel_rfl) hLi))))).symm.trans (un h)) (by simp)),(fun h=>absurd (((hcl 11 10 (by kernel_rfl) (hcl 10 8 (by kernel_rfl) (hcl 8 7 (by kernel_rfl) (hcl 7 6 (by kernel_rfl) (hcl 6 5 (by kernel_rfl) hLi)))))).symm.trans (un h)) (by simp)),(fun h=>absurd (((hcl 12 11 (by kernel_rfl) (hcl 11 10 (by kernel_rfl) (hcl 10 8 (by kernel_rfl) (hcl 8 7 (by kernel_rfl) (hcl 7 6 (by kernel_rfl) (hcl 6 5 (by kernel_rfl) hLi))))))).symm.trans (un h)) (by simp)),(fun h=>absurd (((hcl 13 12 (by kernel_rfl) (hcl 12 11 (by kernel_rfl) (hcl 11 10 (by kernel_rfl) (hcl 10 8 (by kernel_rfl) (hcl 8 7 (by kernel_rfl) (hcl 7 6 (by kernel_rfl) (hcl 6 5 (by kernel_rfl) hLi)))))))).symm.trans (un h)) (by simp)),(fun h=>absurd (((hcl 14 13 (by kernel_rfl) (hcl 13 12 (by kernel_rfl) (hcl 12 11 (by kernel_rfl) (hcl 11 10 (by kernel_rfl) (hcl 10 8 (by kernel_rfl) (hcl 8 7 (by kernel_rfl) (hcl 7 6 (by kernel_rfl) (hcl 6 5 (by kernel_rfl) hLi))))))))).symm.trans (un h)) (by simp)),(fun h=>absurd (((hcl 15 14 (by kernel_rfl) (hcl 14 13 (by kernel_rfl) (hcl 13 12 (by kernel_rfl) (hcl 12 11 (by kernel_rfl) (hcl 11 10 (by kernel_rfl) (hcl 10 8 (by kernel_rfl) (hcl 8 7 (by kernel_rfl) (hcl 7 6 (by kernel_rfl) (hcl 6 5 (by kernel_rfl) hLi)))))))))).symm.trans (un h)) (by simp)),(fun h=>absurd (((hcl 16 14 (by kernel_rfl) (hcl 14 13 (by kernel_rfl) (hcl 13 12 (by kernel_rfl) (hcl 12 11 (by kernel_rfl) (hcl 11 10 (by kernel_rfl) (hcl 10 8 (by kernel_rfl) (hcl 8 7 (by kernel_rfl) (hcl 7 6 (by kernel_rfl) (hcl 6 5 (by kernel_rfl) hLi)))))))))).symm.trans (un h)) (by simp)),(fun h h2=>(J.f17 (un h) (un h2))),(fun h=>absurd (((hcl 18 15 (by kernel_rfl) (hcl 15 14 (by kernel_rfl) (hcl 14 13 (by kernel_rfl) (hcl 13 12 (by kernel_rfl) (hcl 12 11 (by kernel_rfl) (hcl 11 10 (by kernel_rfl) (hcl 10 8 (by kernel_rfl) (hcl 8 7 (by kernel_rfl) (hcl 7 6 (by kernel_rfl) (hcl 6 5 (by kernel_rfl) hLi))))))))))).symm.trans (un h)) (by simp)),(fun h=>absurd (((hcl 19 16 (by kernel_rfl) (hcl 16 14 (by kernel_rfl) (hcl 14 13 (by kernel_rfl) (hcl 13 12 (by kernel_rfl) (hcl 12 11 (by kernel_rfl) (hcl 11 10 (by kernel_rfl) (hcl 10 8 (by kernel_rfl) (hcl 8 7 (by kernel_rfl) (hcl 7 6 (by kernel_rfl) (hcl 6 5 (by kernel_rfl) hLi))))))))))).symm.trans (un h)) (by simp)),(fun _=>hB),J.bb⟩⟩
    ·skip
     have hN:=(hcl 18 15 (by kernel_rfl) (hcl 15 14 (by kernel_rfl) (hcl 14 13 (by kernel_rfl) (hcl 13 12 (by kernel_rfl) (hcl 12 11 (by kernel_rfl) (hcl 11 10 (by kernel_rfl) (hcl 10 8 (by kernel_rfl) (hcl 8 7 (by kernel_rfl) (hcl 7 6 (by kernel_rfl) hLi)))))))))
     have hB:=J.b hN
     obtain rfl:=J.f4 (haft ⟨4,.data⟩ (by simp) rfl)
     obtain rfl:=J.f5 (haft ⟨5,.data⟩ (by simp) rfl)
     go_simp
     exact hK _ _ ⟨_,_,_,_,_,_,_,_,_,_,_,_,_,_,_,_,_,_,_,rfl,⟨(fun h=>J.f0 (un h)),(fun h=>J.f1 (un h)),(fun h=>J.f2 (un h)),(fun h=>J.f3 (un h)),(fun h=>J.f4 (un h)),(fun h=>J.f5 (un h)),(fun _=>rfl),(fun h=>absurd (((hcl 7 6 (by kernel_rfl) hLi)).symm.trans (un h)) (by simp)),(fun h=>absurd (((hcl 8 7 (by kernel_rfl) (hcl 7 6 (by kernel_rfl) hLi))).symm.trans (un h)) (by simp)),(fun h=>J.f9 (un h)),(fun h=>absurd (((hcl 10 8 (by kernel_rfl) (hcl 8 7 (by kernel_rfl) (hcl 7 6 (by kernel_rfl) hLi)))).symm.trans (un h)) (by simp)),(fun h=>absurd (((hcl 11 10 (by kernel_rfl) (hcl 10 8 (by kernel_rfl) (hcl 8 7 (by kernel_rfl) (hcl 7 6 (by kernel_rfl) hLi))))).symm.trans (un h)) (by simp)),(fun h=>absurd (((hcl 12 11 (by kernel_rfl) (hcl 11 10 (by kernel_rfl) (hcl 10 8 (by kernel_rfl) (hcl 8 7 (by kernel_rfl) (hcl 7 6 (by kernel_rfl) hLi)))))).symm.trans (un h)) (by simp)),(fun h=>absurd (((hcl 13 12 (by kernel_rfl) (hcl 12 11 (by kernel_rfl) (hcl 11 10 (by kernel_rfl) (hcl 10 8 (by kernel_rfl) (hcl 8 7 (by kernel_rfl) (hcl 7 6 (by kernel_rfl) hLi))))))).symm.trans (un h)) (by simp)),(fun h=>absurd (((hcl 14 13 (by kernel_rfl) (hcl 13 12 (by kernel_rfl) (hcl 12 11 (by kernel_rfl) (hcl 11 10 (by kernel_rfl) (hcl 10 8 (by kernel_rfl) (hcl 8 7 (by kernel_rfl) (hcl 7 6 (by kernel_rfl) hLi)))))))).symm.trans (un h)) (by simp)),(fun h=>absurd (((hcl 15 14 (by kernel_rfl) (hcl 14 13 (by kernel_rfl) (hcl 13 12 (by kernel_rfl) (hcl 12 11 (by kernel_rfl) (hcl 11 10 (by kernel_rfl) (hcl 10 8 (by kernel_rfl) (hcl 8 7 (by kernel_rfl) (hcl 7 6 (by kernel_rfl) hLi))))))))).symm.trans (un h)) (by simp)),(fun h=>absurd (((hcl 16 14 (by kernel_rfl) (hcl 14 13 (by kernel_rfl) (hcl 13 12 (by kernel_rfl) (hcl 12 11 (by kernel_rfl) (hcl 11 10 (by kernel_rfl) (hcl 10 8 (by kernel_rfl) (hcl 8 7 (by kernel_rfl) (hcl 7 6 (by kernel_rfl) hLi))))))))).symm.trans (un h)) (by simp)),(fun h h2=>(J.f17 (un h) (un h2))),(fun h=>absurd (((hcl 18 15 (by kernel_rfl) (hcl 15 14 (by kernel_rfl) (hcl 14 13 (by kernel_rfl) (hcl 13 12 (by kernel_rfl) (hcl 12 11 (by kernel_rfl) (hcl 11 10 (by kernel_rfl) (hcl 10 8 (by kernel_rfl) (hcl 8 7 (by kernel_rfl) (hcl 7 6 (by kernel_rfl) hLi)))))))))).symm.trans (un h)) (by simp)),(fun h=>absurd (((hcl 19 16 (by kernel_rfl) (hcl 16 14 (by kernel_rfl) (hcl 14 13 (by kernel_rfl) (hcl 13 12 (by kernel_rfl) (hcl 12 11 (by kernel_rfl) (hcl 11 10 (by kernel_rfl) (hcl 10 8 (by kernel_rfl) (hcl 8 7 (by kernel_rfl) (hcl 7 6 (by kernel_rfl) hLi)))))))))).symm.trans (un h)) (by simp)),(fun _=>hB),J.bb⟩⟩
    ·skip
     have hN:=(hcl 18 15 (by kernel_rfl) (hcl 15 14 (by kernel_rfl) (hcl 14 13 (by kernel_rfl) (hcl 13 12 (by kernel_rfl) (hcl 12 11 (by kernel_rfl) (hcl 11 10 (by kernel_rfl) (hcl 10 8 (by kernel_rfl) (hcl 8 7 (by kernel_rfl) hLi))))))))
     have hB:=J.b hN
     obtain rfl:=J.f6 (haft ⟨6,.data⟩ (by simp) rfl)
     go_simp
     exact hK _ _ ⟨_,_,_,_,_,_,_,_,_,_,_,_,_,_,_,_,_,_,_,rfl,⟨(fun h=>J.f0 (un h)),(fun h=>J.f1 (un h)),(fun h=>J.f2 (un h)),(fun h=>J.f3 (un h)),(fun h=>J.f4 (un h)),(fun h=>J.f5 (un h)),(fun h=>J.f6 (un h)),(fun _=>rfl),(fun h=>absurd (((hcl 8 7 (by kernel_rfl) hLi)).symm.trans (un h)) (by simp)),(fun h=>J.f9 (un h)),(fun h=>absurd (((hcl 10 8 (by kernel_rfl) (hcl 8 7 (by kernel_rfl) hLi))).symm.trans (un h)) (by simp)),(fun h=>absurd (((hcl 11 10 (by kernel_rfl) (hcl 10 8 (by kernel_rfl) (hcl 8 7 (by kernel_rfl) hLi)))).symm.trans (un h)) (by simp)),(fun h=>absurd (((hcl 12 11 (by kernel_rfl) (hcl 11 10 (by kernel_rfl) (hcl 10 8 (by kernel_rfl) (hcl 8 7 (by kernel_rfl) hLi))))).symm.trans (un h)) (by simp)),(fun h=>absurd (((hcl 13 12 (by kernel_rfl) (hcl 12 11 (by kernel_rfl) (hcl 11 10 (by kernel_rfl) (hcl 10 8 (by kernel_rfl) (hcl 8 7 (by kernel_rfl) hLi)))))).symm.trans (un h)) (by simp)),(fun h=>absurd (((hcl 14 13 (by kernel_rfl) (hcl 13 12 (by kernel_rfl) (hcl 12 11 (by kernel_rfl) (hcl 11 10 (by kernel_rfl) (hcl 10 8 (by kernel_rfl) (hcl 8 7 (by kernel_rfl) hLi))))))).symm.trans (un h)) (by simp)),(fun h=>absurd (((hcl 15 14 (by kernel_rfl) (hcl 14 13 (by kernel_rfl) (hcl 13 12 (by kernel_rfl) (hcl 12 11 (by kernel_rfl) (hcl 11 10 (by kernel_rfl) (hcl 10 8 (by kernel_rfl) (hcl 8 7 (by kernel_rfl) hLi)))))))).symm.trans (un h)) (by simp)),(fun h=>absurd (((hcl 16 14 (by kernel_rfl) (hcl 14 13 (by kernel_rfl) (hcl 13 12 (by kernel_rfl) (hcl 12 11 (by kernel_rfl) (hcl 11 10 (by kernel_rfl) (hcl 10 8 (by kernel_rfl) (hcl 8 7 (by kernel_rfl) hLi)))))))).symm.trans (un h)) (by simp)),(fun h h2=>(J.f17 (un h) (un h2))),(fun h=>absurd (((hcl 18 15 (by kernel_rfl) (hcl 15 14 (by kernel_rfl) (hcl 14 13 (by kernel_rfl) (hcl 13 12 (by kernel_rfl) (hcl 12 11 (by kernel_rfl) (hcl 11 10 (by kernel_rfl) (hcl 10 8 (by kernel_rfl) (hcl 8 7 (by kernel_rfl) hLi))))))))).symm.trans (un h)) (by simp)),(fun h=>absurd (((hcl 19 16 (by kernel_rfl) (hcl 16 14 (by kernel_rfl) (hcl 14 13 (by kernel_rfl) (hcl 13 12 (by kernel_rfl) (hcl 12 11 (by kernel_rfl) (hcl 11 10 (by kernel_rfl) (hcl 10 8 (by kernel_rfl) (hcl 8 7 (by kernel_rfl) hLi))))))))).symm.trans (un h)) (by simp)),(fun _=>hB),J.bb⟩⟩
    ·skip
     have hN:=(hcl 18 15 (by kernel_rfl) (hcl 15 14 (by kernel_rfl) (hcl 14 13 (by kernel_rfl) (hcl 13 12 (by kernel_rfl) (hcl 12 11 (by kernel_rfl) (hcl 11 10 (by kernel_rfl) (hcl 10 8 (by kernel_rfl) hLi)))))))
     have hB:=J.b hN
     obtain rfl:=J.f7 (haft ⟨7,.data⟩ (by simp) rfl)
     have q0:=(hB.cell (p:=⟨bq,oq+r * 2,none⟩) hlq).trans HZ0.out
     go_simp
     exact hK _ _ ⟨_,_,_,_,_,_,_,_,_,_,_,_,_,_,_,_,_,_,_,rfl,⟨(fun h=>J.f0 (un h)),(fun h=>J.f1 (un h)),(fun h=>J.f2 (un h)),(fun h=>J.f3 (un h)),(fun h=>J.f4 (un h)),(fun h=>J.f5 (un h)),(fun h=>J.f6 (un h)),(fun h=>J.f7 (un h)),(fun _=>rfl),(fun h=>J.f9 (un h)),(fun h=>absurd (((hcl 10 8 (by kernel_rfl) hLi)).symm.trans (un h)) (by simp)),(fun h=>absurd (((hcl 11 10 (by kernel_rfl) (hcl 10 8 (by kernel_rfl) hLi))).symm.trans (un h)) (by simp)),(fun h=>absurd (((hcl 12 11 (by kernel_rfl) (hcl 11 10 (by kernel_rfl) (hcl 10 8 (by kernel_rfl) hLi)))).symm.trans (un h)) (by simp)),(fun h=>absurd (((hcl 13 12 (by kernel_rfl) (hcl 12 11 (by kernel_rfl) (hcl 11 10 (by kernel_rfl) (hcl 10 8 (by kernel_rfl) hLi))))).symm.trans (un h)) (by simp)),(fun h=>absurd (((hcl 14 13 (by kernel_rfl) (hcl 13 12 (by kernel_rfl) (hcl 12 11 (by kernel_rfl) (hcl 11 10 (by kernel_rfl) (hcl 10 8 (by kernel_rfl) hLi)))))).symm.trans (un h)) (by simp)),(fun h=>absurd (((hcl 15 14 (by kernel_rfl) (hcl 14 13 (by kernel_rfl) (hcl 13 12 (by kernel_rfl) (hcl 12 11 (by kernel_rfl) (hcl 11 10 (by kernel_rfl) (hcl 10 8 (by kernel_rfl) hLi))))))).symm.trans (un h)) (by simp)),(fun h=>absurd (((hcl 16 14 (by kernel_rfl) (hcl 14 13 (by kernel_rfl) (hcl 13 12 (by kernel_rfl) (hcl 12 11 (by kernel_rfl) (hcl 11 10 (by kernel_rfl) (hcl 10 8 (by kernel_rfl) hLi))))))).symm.trans (un h)) (by simp)),(fun h h2=>(J.f17 (un h) (un h2))),(fun h=>absurd (((hcl 18 15 (by kernel_rfl) (hcl 15 14 (by kernel_rfl) (hcl 14 13 (by kernel_rfl) (hcl 13 12 (by kernel_rfl) (hcl 12 11 (by kernel_rfl) (hcl 11 10 (by kernel_rfl) (hcl 10 8 (by kernel_rfl) hLi)))))))).symm.trans (un h)) (by simp)),(fun h=>absurd (((hcl 19 16 (by kernel_rfl) (hcl 16 14 (by kernel_rfl) (hcl 14 13 (by kernel_rfl) (hcl 13 12 (by kernel_rfl) (hcl 12 11 (by kernel_rfl) (hcl 11 10 (by kernel_rfl) (hcl 10 8 (by kernel_rfl) hLi)))))))).symm.trans (un h)) (by simp)),(fun _=>hB),J.bb⟩⟩
    ·skip
     have hN:=(hcl 18 15 (by kernel_rfl) (hcl 15 14 (by kernel_rfl) (hcl 14 13 (by kernel_rfl) (hcl 13 12 (by kernel_rfl) (hcl 12 11 (by kernel_rfl) (hcl 11 10 (by kernel_rfl) (hcl 10 9 (by kernel_rfl) hLi)))))))
     have hB:=J.b hN
     go_simp
     exact hK _ _ ⟨_,_,_,_,_,_,_,_,_,_,_,_,_,_,_,_,_,_,_,rfl,⟨(fun h=>J.f0 (un h)),(fun h=>J.f1 (un h)),(fun h=>J.f2 (un h)),(fun h=>J.f3 (un h)),(fun h=>J.f4 (un h)),(fun h=>J.f5 (un h)),(fun h=>J.f6 (un h)),(fun h=>J.f7 (un h)),(fun h=>J.f8 (un h)),(fun _=>rfl),(fun h=>absurd (((hcl 10 9 (by kernel_rfl) hLi)).symm.trans (un h)) (by simp)),(fun h=>absurd (((hcl 11 10 (by kernel_rfl) (hcl 10 9 (by kernel_rfl) hLi))).symm.trans (un h)) (by simp)),(fun h=>absurd (((hcl 12 11 (by kernel_rfl) (hcl 11 10 (by kernel_rfl) (hcl 10 9 (by kernel_rfl) hLi)))).symm.trans (un h)) (by simp)),(fun h=>absurd (((hcl 13 12 (by kernel_rfl) (hcl 12 11 (by kernel_rfl) (hcl 11 10 (by kernel_rfl) (hcl 10 9 (by kernel_rfl) hLi))))).symm.trans (un h)) (by simp)),(fun h=>absurd (((hcl 14 13 (by kernel_rfl) (hcl 13 12 (by kernel_rfl) (hcl 12 11 (by kernel_rfl) (hcl 11 10 (by kernel_rfl) (hcl 10 9 (by kernel_rfl) hLi)))))).symm.trans (un h)) (by simp)),(fun h=>absurd (((hcl 15 14 (by kernel_rfl) (hcl 14 13 (by kernel_rfl) (hcl 13 12 (by kernel_rfl) (hcl 12 11 (by kernel_rfl) (hcl 11 10 (by kernel_rfl) (hcl 10 9 (by kernel_rfl) hLi))))))).symm.trans (un h)) (by simp)),(fun h=>absurd (((hcl 16 14 (by kernel_rfl) (hcl 14 13 (by kernel_rfl) (hcl 13 12 (by kernel_rfl) (hcl 12 11 (by kernel_rfl) (hcl 11 10 (by kernel_rfl) (hcl 10 9 (by kernel_rfl) hLi))))))).symm.trans (un h)) (by simp)),(fun h h2=>(J.f17 (un h) (un h2))),(fun h=>absurd (((hcl 18 15 (by kernel_rfl) (hcl 15 14 (by kernel_rfl) (hcl 14 13 (by kernel_rfl) (hcl 13 12 (by kernel_rfl) (hcl 12 11 (by kernel_rfl) (hcl 11 10 (by kernel_rfl) (hcl 10 9 (by kernel_rfl) hLi)))))))).symm.trans (un h)) (by simp)),(fun h=>absurd (((hcl 19 16 (by kernel_rfl) (hcl 16 14 (by kernel_rfl) (hcl 14 13 (by kernel_rfl) (hcl 13 12 (by kernel_rfl) (hcl 12 11 (by kernel_rfl) (hcl 11 10 (by kernel_rfl) (hcl 10 9 (by kernel_rfl) hLi)))))))).symm.trans (un h)) (by simp)),(fun _=>hB),J.bb⟩⟩
    ·skip
     have hN:=(hcl 18 15 (by kernel_rfl) (hcl 15 14 (by kernel_rfl) (hcl 14 13 (by kernel_rfl) (hcl 13 12 (by kernel_rfl) (hcl 12 11 (by kernel_rfl) (hcl 11 10 (by kernel_rfl) hLi))))))
     have hB:=J.b hN
     obtain rfl:=J.f8 (haft ⟨8,.data⟩ (by simp) rfl)
     obtain rfl:=J.f9 (haft ⟨9,.data⟩ (by simp) rfl)
     go_simp
     exact hK _ _ ⟨_,_,_,_,_,_,_,_,_,_,_,_,_,_,_,_,_,_,_,rfl,⟨(fun h=>J.f0 (un h)),(fun h=>J.f1 (un h)),(fun h=>J.f2 (un h)),(fun h=>J.f3 (un h)),(fun h=>J.f4 (un h)),(fun h=>J.f5 (un h)),(fun h=>J.f6 (un h)),(fun h=>J.f7 (un h)),(fun h=>J.f8 (un h)),(fun h=>J.f9 (un h)),(fun _=>rfl),(fun h=>absurd (((hcl 11 10 (by kernel_rfl) hLi)).symm.trans (un h)) (by simp)),(fun h=>absurd (((hcl 12 11 (by kernel_rfl) (hcl 11 10 (by kernel_rfl) hLi))).symm.trans (un h)) (by simp)),(fun h=>absurd (((hcl 13 12 (by kernel_rfl) (hcl 12 11 (by kernel_rfl) (hcl 11 10 (by kernel_rfl) hLi)))).symm.trans (un h)) (by simp)),(fun h=>absurd (((hcl 14 13 (by kernel_rfl) (hcl 13 12 (by kernel_rfl) (hcl 12 11 (by kernel_rfl) (hcl 11 10 (by kernel_rfl) hLi))))).symm.trans (un h)) (by simp)),(fun h=>absurd (((hcl 15 14 (by kernel_rfl) (hcl 14 13 (by kernel_rfl) (hcl 13 12 (by kernel_rfl) (hcl 12 11 (by kernel_rfl) (hcl 11 10 (by kernel_rfl) hLi)))))).symm.trans (un h)) (by simp)),(fun h=>absurd (((hcl 16 14 (by kernel_rfl) (hcl 14 13 (by kernel_rfl) (hcl 13 12 (by kernel_rfl) (hcl 12 11 (by kernel_rfl) (hcl 11 10 (by kernel_rfl) hLi)))))).symm.trans (un h)) (by simp)),(fun h h2=>(J.f17 (un h) (un h2))),(fun h=>absurd (((hcl 18 15 (by kernel_rfl) (hcl 15 14 (by kernel_rfl) (hcl 14 13 (by kernel_rfl) (hcl 13 12 (by kernel_rfl) (hcl 12 11 (by kernel_rfl) (hcl 11 10 (by kernel_rfl) hLi))))))).symm.trans (un h)) (by simp)),(fun h=>absurd (((hcl 19 16 (by kernel_rfl) (hcl 16 14 (by kernel_rfl) (hcl 14 13 (by kernel_rfl) (hcl 13 12 (by kernel_rfl) (hcl 12 11 (by kernel_rfl) (hcl 11 10 (by kernel_rfl) hLi))))))).symm.trans (un h)) (by simp)),(fun _=>hB),J.bb⟩⟩
    ·skip
     have hN:=(hcl 18 15 (by kernel_rfl) (hcl 15 14 (by kernel_rfl) (hcl 14 13 (by kernel_rfl) (hcl 13 12 (by kernel_rfl) (hcl 12 11 (by kernel_rfl) hLi)))))
     have hB:=J.b hN
     obtain rfl:=J.f10 (haft ⟨10,.data⟩ (by simp) rfl)
     go_simp
     exact hK _ _ ⟨_,_,_,_,_,_,_,_,_,_,_,_,_,_,_,_,_,_,_,rfl,⟨(fun h=>J.f0 (un h)),(fun h=>J.f1 (un h)),(fun h=>J.f2 (un h)),(fun h=>J.f3 (un h)),(fun h=>J.f4 (un h)),(fun h=>J.f5 (un h)),(fun h=>J.f6 (un h)),(fun h=>J.f7 (un h)),(fun h=>J.f8 (un h)),(fun h=>J.f9 (un h)),(fun h=>J.f10 (un h)),(fun _=>rfl),(fun h=>absurd (((hcl 12 11 (by kernel_rfl) hLi)).symm.trans (un h)) (by simp)),(fun h=>absurd (((hcl 13 12 (by kernel_rfl) (hcl 12 11 (by kernel_rfl) hLi))).symm.trans (un h)) (by simp)),(fun h=>absurd (((hcl 14 13 (by kernel_rfl) (hcl 13 12 (by kernel_rfl) (hcl 12 11 (by kernel_rfl) hLi)))).symm.trans (un h)) (by simp)),(fun h=>absurd (((hcl 15 14 (by kernel_rfl) (hcl 14 13 (by kernel_rfl) (hcl 13 12 (by kernel_rfl) (hcl 12 11 (by kernel_rfl) hLi))))).symm.trans (un h)) (by simp)),(fun h=>absurd (((hcl 16 14 (by kernel_rfl) (hcl 14 13 (by kernel_rfl) (hcl 13 12 (by kernel_rfl) (hcl 12 11 (by kernel_rfl) hLi))))).symm.trans (un h)) (by simp)),(fun h h2=>(J.f17 (un h) (un h2))),(fun h=>absurd (((hcl 18 15 (by kernel_rfl) (hcl 15 14 (by kernel_rfl) (hcl 14 13 (by kernel_rfl) (hcl 13 12 (by kernel_rfl) (hcl 12 11 (by kernel_rfl) hLi)))))).symm.trans (un h)) (by simp)),(fun h=>absurd (((hcl 19 16 (by kernel_rfl) (hcl 16 14 (by kernel_rfl) (hcl 14 13 (by kernel_rfl) (hcl 13 12 (by kernel_rfl) (hcl 12 11 (by kernel_rfl) hLi)))))).symm.trans (un h)) (by simp)),(fun _=>hB),J.bb⟩⟩
    ·skip
     have hN:=(hcl 18 15 (by kernel_rfl) (hcl 15 14 (by kernel_rfl) (hcl 14 13 (by kernel_rfl) (hcl 13 12 (by kernel_rfl) hLi))))
     have hB:=J.b hN
     obtain rfl:=J.f11 (haft ⟨11,.data⟩ (by simp) rfl)
     have q0:=(hB.cell (p:=⟨bh,oh+a * 11,none⟩) hlh).trans HY0.out
     go_simp
     exact hK _ _ ⟨_,_,_,_,_,_,_,_,_,_,_,_,_,_,_,_,_,_,_,rfl,⟨(fun h=>J.f0 (un h)),(fun h=>J.f1 (un h)),(fun h=>J.f2 (un h)),(fun h=>J.f3 (un h)),(fun h=>J.f4 (un h)),(fun h=>J.f5 (un h)),(fun h=>J.f6 (un h)),(fun h=>J.f7 (un h)),(fun h=>J.f8 (un h)),(fun h=>J.f9 (un h)),(fun h=>J.f10 (un h)),(fun h=>J.f11 (un h)),(fun _=>rfl),(fun h=>absurd (((hcl 13 12 (by kernel_rfl) hLi)).symm.trans (un h)) (by simp)),(fun h=>absurd (((hcl 14 13 (by kernel_rfl) (hcl 13 12 (by kernel_rfl) hLi))).symm.trans (un h)) (by simp)),(fun h=>absurd (((hcl 15 14 (by kernel_rfl) (hcl 14 13 (by kernel_rfl) (hcl 13 12 (by kernel_rfl) hLi)))).symm.trans (un h)) (by simp)),(fun h=>absurd (((hcl 16 14 (by kernel_rfl) (hcl 14 13 (by kernel_rfl) (hcl 13 12 (by kernel_rfl) hLi)))).symm.trans (un h)) (by simp)),(fun h h2=>(J.f17 (un h) (un h2))),(fun h=>absurd (((hcl 18 15 (by kernel_rfl) (hcl 15 14 (by kernel_rfl) (hcl 14 13 (by kernel_rfl) (hcl 13 12 (by kernel_rfl) hLi))))).symm.trans (un h)) (by simp)),(fun h=>absurd (((hcl 19 16 (by kernel_rfl) (hcl 16 14 (by kernel_rfl) (hcl 14 13 (by kernel_rfl) (hcl 13 12 (by kernel_rfl) hLi))))).symm.trans (un h)) (by simp)),(fun _=>hB),J.bb⟩⟩
    ·skip
     have hN:=(hcl 18 15 (by kernel_rfl) (hcl 15 14 (by kernel_rfl) (hcl 14 13 (by kernel_rfl) hLi)))
     have hB:=J.b hN
     obtain rfl:=J.f0 (haft ⟨0,.data⟩ (by simp) rfl)
     obtain rfl:=J.f1 (haft ⟨1,.data⟩ (by simp) rfl)
     obtain rfl:=J.f2 (haft ⟨2,.data⟩ (by simp) rfl)
     obtain rfl:=J.f12 (haft ⟨12,.data⟩ (by simp) rfl)
     go_simp
     go_wp2_with (go_at_call 24;refine (KP.out W hB).mono ?_;rintro e W2 ⟨p3,q3,r3,s3,rfl,hO,hb⟩)
     exact ⟨_,_,_,_,_,_,_,_,_,_,_,_,_,_,_,_,_,_,_,rfl,⟨(fun h=>J.f0 (un h)),(fun h=>J.f1 (un h)),(fun h=>J.f2 (un h)),(fun h=>J.f3 (un h)),(fun h=>J.f4 (un h)),(fun h=>J.f5 (un h)),(fun h=>J.f6 (un h)),(fun h=>J.f7 (un h)),(fun h=>J.f8 (un h)),(fun h=>J.f9 (un h)),(fun h=>J.f10 (un h)),(fun h=>J.f11 (un h)),(fun h=>J.f12 (un h)),(fun _=>⟨p3,q3,r3,s3,rfl,hO⟩),(fun h=>absurd (((hcl 14 13 (by kernel_rfl) hLi)).symm.trans (un h)) (by simp)),(fun h=>absurd (((hcl 15 14 (by kernel_rfl) (hcl 14 13 (by kernel_rfl) hLi))).symm.trans (un h)) (by simp)),(fun h=>absurd (((hcl 16 14 (by kernel_rfl) (hcl 14 13 (by kernel_rfl) hLi))).symm.trans (un h)) (by simp)),(fun h h2=>((J.f17 (un h) (un h2))).elim fun b h=>⟨b,h.1,h.2.1,box_kept h.2.2 hb⟩),(fun h=>absurd (((hcl 18 15 (by kernel_rfl) (hcl 15 14 (by kernel_rfl) (hcl 14 13 (by kernel_rfl) hLi)))).symm.trans (un h)) (by simp)),(fun h=>absurd (((hcl 19 16 (by kernel_rfl) (hcl 16 14 (by kernel_rfl) (hcl 14 13 (by kernel_rfl) hLi)))).symm.trans (un h)) (by simp)),(fun _=>k_trans hB hb),k_trans J.bb hb⟩⟩
    ·skip
     have hN:=(hcl 18 15 (by kernel_rfl) (hcl 15 14 (by kernel_rfl) hLi))
     have hB:=J.b hN
     go_simp
     exact hK _ _ ⟨_,_,_,_,_,_,_,_,_,_,_,_,_,_,_,_,_,_,_,rfl,⟨(fun h=>J.f0 (un h)),(fun h=>J.f1 (un h)),(fun h=>J.f2 (un h)),(fun h=>J.f3 (un h)),(fun h=>J.f4 (un h)),(fun h=>J.f5 (un h)),(fun h=>J.f6 (un h)),(fun h=>J.f7 (un h)),(fun h=>J.f8 (un h)),(fun h=>J.f9 (un h)),(fun h=>J.f10 (un h)),(fun h=>J.f11 (un h)),(fun h=>J.f12 (un h)),(fun h=>(J.f13 (un h))),(fun _=>rfl),(fun h=>absurd (((hcl 15 14 (by kernel_rfl) hLi)).symm.trans (un h)) (by simp)),(fun h=>absurd (((hcl 16 14 (by kernel_rfl) hLi)).symm.trans (un h)) (by simp)),(fun h h2=>(J.f17 (un h) (un h2))),(fun h=>absurd (((hcl 18 15 (by kernel_rfl) (hcl 15 14 (by kernel_rfl) hLi))).symm.trans (un h)) (by simp)),(fun h=>absurd (((hcl 19 16 (by kernel_rfl) (hcl 16 14 (by kernel_rfl) hLi))).symm.trans (un h)) (by simp)),(fun _=>hB),J.bb⟩⟩
    ·skip
     have hN:=(hcl 18 15 (by kernel_rfl) hLi)
     have hB:=J.b hN
     have h12:L 13=true:=eq_true_of_ne_false (fun h3=>by have h4:=hcl 14 13 (by kernel_rfl) h3;rw [(haft ⟨14,.data⟩ (by simp) rfl)] at h4;cases h4)
     obtain ⟨p3,q3,r3,s3,e3,_⟩:=J.f13 h12
     obtain rfl:=J.f14 (haft ⟨14,.data⟩ (by simp) rfl)
     subst e3
     go_simp
     exact hK _ _ ⟨_,_,_,_,_,_,_,_,_,_,_,_,_,_,_,_,_,_,_,rfl,⟨(fun h=>J.f0 (un h)),(fun h=>J.f1 (un h)),(fun h=>J.f2 (un h)),(fun h=>J.f3 (un h)),(fun h=>J.f4 (un h)),(fun h=>J.f5 (un h)),(fun h=>J.f6 (un h)),(fun h=>J.f7 (un h)),(fun h=>J.f8 (un h)),(fun h=>J.f9 (un h)),(fun h=>J.f10 (un h)),(fun h=>J.f11 (un h)),(fun h=>J.f12 (un h)),(fun h=>(J.f13 (un h))),(fun h=>J.f14 (un h)),(fun _=>⟨p3,q3,r3,s3,rfl,rfl⟩),(fun h=>J.f16 (un h)),(fun h h2=>(J.f17 (un h) (un h2))),(fun h=>absurd (((hcl 18 15 (by kernel_rfl) hLi)).symm.trans (un h)) (by simp)),(fun h=>J.f19 (un h)),(fun _=>hB),J.bb⟩⟩
    ·skip
     have h12:L 13=true:=eq_true_of_ne_false (fun h3=>by have h4:=hcl 14 13 (by kernel_rfl) h3;rw [(haft ⟨14,.data⟩ (by simp) rfl)] at h4;cases h4)
     obtain ⟨p3,q3,r3,s3,e3,_⟩:=J.f13 h12
     obtain rfl:=J.f14 (haft ⟨14,.data⟩ (by simp) rfl)
     subst e3
     go_simp
     exact hK _ _ ⟨_,_,_,_,_,_,_,_,_,_,_,_,_,_,_,_,_,_,_,rfl,⟨(fun h=>J.f0 (un h)),(fun h=>J.f1 (un h)),(fun h=>J.f2 (un h)),(fun h=>J.f3 (un h)),(fun h=>J.f4 (un h)),(fun h=>J.f5 (un h)),(fun h=>J.f6 (un h)),(fun h=>J.f7 (un h)),(fun h=>J.f8 (un h)),(fun h=>J.f9 (un h)),(fun h=>J.f10 (un h)),(fun h=>J.f11 (un h)),(fun h=>J.f12 (un h)),(fun h=>(J.f13 (un h))),(fun h=>J.f14 (un h)),(fun h=>J.f15 (un h)),(fun _=>rfl),(fun h h2=>(J.f17 (un h) (un h2))),(fun h=>J.f18 (un h)),(fun h=>absurd (((hcl 19 16 (by kernel_rfl) hLi)).symm.trans (un h)) (by simp)),(fun h=>J.b (un h)),J.bb⟩⟩
    ·skip
     have hN:=(hcl 18 17 (by kernel_rfl) hLi)
     have hB:=J.b hN
     go_simp
     exact hK _ _ ⟨_,_,_,_,_,_,_,_,_,_,_,_,_,_,_,_,_,_,_,rfl,⟨(fun h=>J.f0 (un h)),(fun h=>J.f1 (un h)),(fun h=>J.f2 (un h)),(fun h=>J.f3 (un h)),(fun h=>J.f4 (un h)),(fun h=>J.f5 (un h)),(fun h=>J.f6 (un h)),(fun h=>J.f7 (un h)),(fun h=>J.f8 (un h)),(fun h=>J.f9 (un h)),(fun h=>J.f10 (un h)),(fun h=>J.f11 (un h)),(fun h=>J.f12 (un h)),(fun h=>((J.f13 (un h))).elim fun p ⟨q,r',s,e,h⟩=>⟨p,q,r',s,e,h.since (.of_below (k_alloc (Below.refl _ _) _))⟩),(fun h=>J.f14 (un h)),(fun h=>J.f15 (un h)),(fun h=>J.f16 (un h)),(fun _ _=>⟨_,rfl,hB.size,newestB _ _⟩),(fun h=>absurd (((hcl 18 17 (by kernel_rfl) hLi)).symm.trans (un h)) (by simp)),(fun h=>J.f19 (un h)),(fun _=>k_alloc hB _),k_alloc J.bb _⟩⟩
    ·skip
     have hN:=hLi
     have hB:=J.b hN
     obtain ⟨p3,q3,r3,s3,e3,rfl⟩:=J.f15 (haft ⟨15,.data⟩ (by simp) rfl)
     subst e3
     obtain ⟨b,rfl,hbw,hbk⟩:=J.f17 (haft ⟨17,.data⟩ (by simp) rfl) hLi
     have hB:=J.b hLi
     obtain ⟨q0,q1',q2,q3',q4⟩:=fiveO hbk
     have fz:∀ o,W.frozen? ⟨b,o,none⟩=false:=fun o=>freeB hbk
     go_simp
     exact hK _ _ ⟨_,_,_,_,_,_,_,_,_,_,_,_,_,_,_,_,_,_,_,rfl,⟨(fun h=>J.f0 (un h)),(fun h=>J.f1 (un h)),(fun h=>J.f2 (un h)),(fun h=>J.f3 (un h)),(fun h=>J.f4 (un h)),(fun h=>J.f5 (un h)),(fun h=>J.f6 (un h)),(fun h=>J.f7 (un h)),(fun h=>J.f8 (un h)),(fun h=>J.f9 (un h)),(fun h=>J.f10 (un h)),(fun h=>J.f11 (un h)),(fun h=>J.f12 (un h)),(fun h=>((J.f13 (un h))).elim fun p ⟨q,r',s,e,h⟩=>⟨p,q,r',s,e,own_set5 h hbk _ _ _ _ _⟩),(fun h=>J.f14 (un h)),(fun h=>J.f15 (un h)),(fun h=>J.f16 (un h)),(fun _ h=>absurd (h.symm.trans upd_self) (by simp)),(fun _=>⟨b,p3,q3,r3,s3,rfl,hbw,rfl,set5_is hbk _ _ _ _ _⟩),(fun h=>J.f19 (un h)),(fun h=>absurd (h.symm.trans upd_self) (by simp)),k_set (k_set (k_set (k_set (k_set J.bb hbw _) hbw _) hbw _) hbw _) hbw _⟩⟩
    ·skip
     obtain rfl:=J.f16 (haft ⟨16,.data⟩ (by simp) rfl)
     go_simp
     exact hK _ _ ⟨_,_,_,_,_,_,_,_,_,_,_,_,_,_,_,_,_,_,_,rfl,⟨(fun h=>J.f0 (un h)),(fun h=>J.f1 (un h)),(fun h=>J.f2 (un h)),(fun h=>J.f3 (un h)),(fun h=>J.f4 (un h)),(fun h=>J.f5 (un h)),(fun h=>J.f6 (un h)),(fun h=>J.f7 (un h)),(fun h=>J.f8 (un h)),(fun h=>J.f9 (un h)),(fun h=>J.f10 (un h)),(fun h=>J.f11 (un h)),(fun h=>J.f12 (un h)),(fun h=>(J.f13 (un h))),(fun h=>J.f14 (un h)),(fun h=>J.f15 (un h)),(fun h=>J.f16 (un h)),(fun h h2=>(J.f17 (un h) (un h2))),(fun h=>J.f18 (un h)),(fun _=>rfl),(fun h=>J.b (un h)),J.bb⟩⟩

theorem lawEX (a:Option Addr) (len cap:Nat) (w:World) (h:IsCode w a len cap) :
  Calls Try.prog 6 #[.slice a len cap] w fun e w'=>e=.returned (.bool true)∧Below w.heap.size w w':=by
 by_cases hl:len≤1048576
 ·exact lawEX_walk a len cap hl w h
 ·have hl':(1048576:Int) < (len:Int):=by omega
  clear h
  go_enter Try.func6,Try.ntmps6
  go_wp2
  go_ret
  exact ⟨rfl,Below.refl _ _⟩
end Go.Proofs.Ytggmjiddadjilaj
