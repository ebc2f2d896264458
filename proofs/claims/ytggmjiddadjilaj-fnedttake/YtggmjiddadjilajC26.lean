/-
  PROVED HERE: the law FnEdtTake returns true at every code that lies in memory.
-/
import Derived.Test.YtggmjiddadjilajC4
import Derived.Test.YtggmjiddadjilajC11
import Derived.Test.YtggmjiddadjilajC13
import Derived.Test.YtggmjiddadjilajC14
import Derived.Test.YtggmjiddadjilajC15
import Derived.Test.YtggmjiddadjilajC16
import Derived.Test.YtggmjiddadjilajC25
import Derived.Test.YtggmjiddadjilajC5
import Derived.Test.YtggmjiddadjilajC12
import Derived.Test.YtggmjiddadjilajC3
namespace Go.Proofs.Ytggmjiddadjilaj
open Go.RowKit Go.BigFrame

theorem set5_is {w:World} {g:Nat} {t:TypeId} {x0 x1 x2 x3 x4:Value} (h:w.heap[g]?=some (.cells #[x0,x1,x2,x3,x4] t)) (u0 u1 u2 u3 u4:Value):((((w.setCell ⟨g,0,none⟩ u0).setCell ⟨g,1,none⟩ u1).setCell ⟨g,2,none⟩ u2).setCell ⟨g,3,none⟩ u3 |>.setCell ⟨g,4,none⟩ u4).heap[g]?=some (.cells #[u0,u1,u2,u3,u4] t) :=
 setB (setB (setB (setB (setB h u0) u1) u2) u3) u4
theorem own_set5 {w:World} {B:Nat} {vc vr:Value} {t:T} (h:OwnT w B vc vr t) {g:Nat} {cur:Array Value} (hg:w.heap[g]?=some (.cells cur 37)) (u0 u1 u2 u3 u4:Value):OwnT (((((w.setCell ⟨g,0,none⟩ u0).setCell ⟨g,1,none⟩ u1).setCell ⟨g,2,none⟩ u2).setCell ⟨g,3,none⟩ u3).setCell ⟨g,4,none⟩ u4) B vc vr t:=by
 obtain ⟨ur,e,h1,h2⟩:=h
 exact ⟨ur,e,row_off5 h1 hg (by decide) u0 u1 u2 u3 u4,⟨row_off5 h2.own hg (by decide) u0 u1 u2 u3 u4,fun p hp=>row_off5 (h2.cells p hp) hg (by decide) u0 u1 u2 u3 u4,h2.apart⟩⟩
structure EtJ (b1x tb bq oq bh oh r a ml cu cr:Nat) (p1 r1:Option Addr) (q1 s1:Nat) (X t:T) (y:C) (W3:World) (L:Nat→Bool) (W:World) (v10 v11 v62 v63 v64 v65 v66 v67 v68 v69 v70 v71 v72 v73 v74 v75 v76 v77:Value):Prop where
 f0:L 0=true→v63=.agg #[.slice p1 X.cols.length q1,.int .i64 X.head,.int .i64 X.foot,.slice r1 X.rows.length s1,.int .i64 X.gap]
 f1:L 1=true→v64=.int .i64 r
 f2:L 2=true→v65=.int .i64 a
 f3:L 3=true→v66=.pointer (some ⟨tb,3,none⟩)
 f4:L 4=true→v67=.slice (some ⟨bq,oq,none⟩) t.rows.length cr
 f5:L 5=true→v68=.int .i64 r
 f6:L 6=true→v69=.pointer (some ⟨bq,oq+r * 2,none⟩)
 f7:L 7=true→v70=.pointer (some ⟨bq,oq+r * 2,none⟩)
 f8:L 8=true→v71=.slice (some ⟨bh,oh,none⟩) ml cu
 f9:L 9=true→v72=.int .i64 a
 f10:L 10=true→v73=.pointer (some ⟨bh,oh+a * 11,none⟩)
 f11:L 11=true→v74=.agg #[.string y.s,.int .i64 y.c,.int .i64 y.r,.int .i64 y.a1,.int .i64 y.b1,.int .i64 y.a2,.int .i64 y.b2,.int .i64 y.a3,.int .i64 y.b3,.int .i64 y.a4,.int .i64 y.b4]
 f12:L 12=true→∃ p q r' s,v75=.tuple #[.agg #[.slice p t.cols.length q,.int .i64 t.head,.int .i64 t.foot,.slice r' t.rows.length s,.int .i64 t.gap],.bool true]∧OwnT W W3.heap.size (.slice p t.cols.length q) (.slice r' t.rows.length s) t
 f13:L 13=true→v62=v75
 f14:L 14=true→∃ p q r' s,v75=.tuple #[.agg #[.slice p t.cols.length q,.int .i64 t.head,.int .i64 t.foot,.slice r' t.rows.length s,.int .i64 t.gap],.bool true]∧v76=.agg #[.slice p t.cols.length q,.int .i64 t.head,.int .i64 t.foot,.slice r' t.rows.length s,.int .i64 t.gap]
 f15:L 15=true→v77=.bool true
 f16:L 16=true→L 17=false→∃ b,v10=.pointer (some ⟨b,0,none⟩)∧W3.heap.size≤b∧W.heap[b]?=some (.cells #[.slice none 0 0,.int .i64 0,.int .i64 0,.slice none 0 0,.int .i64 0] 37)
 f17:L 17=true→∃ b p q r' s,v10=.pointer (some ⟨b,0,none⟩)∧W3.heap.size≤b∧v75=.tuple #[.agg #[.slice p t.cols.length q,.int .i64 t.head,.int .i64 t.foot,.slice r' t.rows.length s,.int .i64 t.gap],.bool true]∧W.heap[b]?=some (.cells #[.slice p t.cols.length q,.int .i64 t.head,.int .i64 t.foot,.slice r' t.rows.length s,.int .i64 t.gap] 37)
 f18:L 18=true→v11=.bool true
 b:L 17=false→Below W3.heap.size W3 W
 bb:Below W3.heap.size W3 W
set_option maxRecDepth 100000 in
set_option maxHeartbeats 3000000 in
theorem lawET_walk (A:Option Addr) (len cap:Nat) (hlen:len≤1048576) (w:World) (h:IsCode w A len cap) :
  Calls Try.prog 5 #[.slice A len cap] w fun e w'=>e=.returned (.bool true)∧Below w.heap.size w w':=by
 have hl:¬ (1048576:Int) < (len:Int):=by omega
 have hmx:Try.prog.follows .mixedOrders=true:=by kernel_rfl
 have HD:=Hid.intro h
 clear h
 go_enter Try.func5,Try.ntmps5
 go_wp2_with fail
 refine (drawEdtTake_any _ _ _ _ HD.out).mono ?_
 rintro e w1 ⟨ac,ar,cc,cr,t,row,at',rfl,_,hq1,hq2,hC1,hR1,hb1⟩
 have HK:=Hid.intro (k_alloc hb1 (.cells #[.slice ac t.cols.length cc,.int .i64 t.head,.int .i64 t.foot,.slice ar t.rows.length cr,.int .i64 t.gap] 37))
 have HT:=Hid.intro (newestB w1 (.cells #[.slice ac t.cols.length cc,.int .i64 t.head,.int .i64 t.foot,.slice ar t.rows.length cr,.int .i64 t.gap] 37))
 have C0:=Hid.intro (hC1.kept (k_alloc (Below.refl _ _) (.cells #[.slice ac t.cols.length cc,.int .i64 t.head,.int .i64 t.foot,.slice ar t.rows.length cr,.int .i64 t.gap] 37)))
 have R0:=Hid.intro (hR1.kept (k_alloc (Below.refl _ _) (.cells #[.slice ac t.cols.length cc,.int .i64 t.head,.int .i64 t.foot,.slice ar t.rows.length cr,.int .i64 t.gap] 37)))
 have HTx:=Hid.intro (txM_at hR1)
 clear hC1 hR1 hb1 HD
 have HTe:Hid (TxM (edTake t row at').1):=txM_take HTx.out
 have hrow:-9223372036854775808≤row∧row≤9223372036854775807:=by omega
 have KSp:=Hid.intro (fun (a b:Option Addr) (c d:Nat) (W:World) (z:Nat) (h1:ColsAt W z (.slice a t.cols.length c) t.cols) (h2:RowsAt W z (.slice b t.rows.length d) t.rows)=>specEdtTake a b c d t row at' hrow W h1 h2)
 have KIm:=Hid.intro (fun (a b:Option Addr) (c d:Nat) (W:World) (z:Nat) (h1:ColsAt W z (.slice a t.cols.length c) t.cols) (h2:RowsAt W z (.slice b t.rows.length d) t.rows)=>implEdtTake a b c d t row at' hrow W h1 h2)
 obtain ⟨E,hE⟩:∃ E,edTake t row at'=E:=⟨_,rfl⟩
 rw [hE] at HTe KSp KIm
 have HEq:=Hid.intro hE
 clear hE
 have hbb:(E.2 != E.2)=false:=by simp
 go_upto_region 4 with fail
 generalize w1.alloc (.cells #[.slice ac t.cols.length cc,.int .i64 t.head,.int .i64 t.foot,.slice ar t.rows.length cr,.int .i64 t.gap] 37)=W1 at HK HT C0 R0 ⊢
 generalize w1.heap.size=tb at HT ⊢
 obtain ⟨m0,m1,m2,m3,m4⟩:=fiveO HT.out
 go_wp2_with fail
 refine (KIm.out _ _ _ _ _ _ C0.out R0.out).mono ?_
 rintro e w2 ⟨p1,q1,r1,s1,d1,d2,rfl,hO,hb⟩
 have hXC:=hO.cols
 have hXR:=hO.rows HTe.out
 obtain ⟨_,_,e1,_⟩:=At.form hXC
 simp only [Value.slice.injEq] at e1
 have e1':=e1.2.1
 clear e1
 subst e1'
 obtain ⟨_,_,e2,_⟩:=At.form hXR
 simp only [Value.slice.injEq] at e2
 have e2':=e2.2.1
 clear e2
 subst e2'
 have C1:=Hid.intro hXC
 have R1:=Hid.intro hXR
 replace HK:=Hid.intro (k_trans HK.out hb)
 replace HT:=Hid.intro (box_kept HT.out hb)
 replace C0:=Hid.intro (C0.out.kept hb)
 replace R0:=Hid.intro (R0.out.kept hb)
 clear m0 m1 m2 m3 m4
 clear hb hO hXC hXR
 replace HK:=Hid.intro (k_trans HK.out (k_alloc (Below.refl _ _) (.cells #[.slice p1 E.1.cols.length q1,.int .i64 E.1.head,.int .i64 E.1.foot,.slice r1 E.1.rows.length s1,.int .i64 E.1.gap] 37)))
 replace HT:=Hid.intro (box_kept HT.out (k_alloc (Below.refl _ _) (.cells #[.slice p1 E.1.cols.length q1,.int .i64 E.1.head,.int .i64 E.1.foot,.slice r1 E.1.rows.length s1,.int .i64 E.1.gap] 37)))
 replace C0:=Hid.intro (C0.out.kept (k_alloc (Below.refl _ _) (.cells #[.slice p1 E.1.cols.length q1,.int .i64 E.1.head,.int .i64 E.1.foot,.slice r1 E.1.rows.length s1,.int .i64 E.1.gap] 37)))
 replace R0:=Hid.intro (R0.out.kept (k_alloc (Below.refl _ _) (.cells #[.slice p1 E.1.cols.length q1,.int .i64 E.1.head,.int .i64 E.1.foot,.slice r1 E.1.rows.length s1,.int .i64 E.1.gap] 37)))
 replace C1:=Hid.intro (C1.out.kept (k_alloc (Below.refl _ _) (.cells #[.slice p1 E.1.cols.length q1,.int .i64 E.1.head,.int .i64 E.1.foot,.slice r1 E.1.rows.length s1,.int .i64 E.1.gap] 37)))
 replace R1:=Hid.intro (R1.out.kept (k_alloc (Below.refl _ _) (.cells #[.slice p1 E.1.cols.length q1,.int .i64 E.1.head,.int .i64 E.1.foot,.slice r1 E.1.rows.length s1,.int .i64 E.1.gap] 37)))
 have H1:=Hid.intro (newestB w2 (.cells #[.slice p1 E.1.cols.length q1,.int .i64 E.1.head,.int .i64 E.1.foot,.slice r1 E.1.rows.length s1,.int .i64 E.1.gap] 37))
 go_upto_region 5 with fail
 generalize w2.alloc (.cells #[.slice p1 E.1.cols.length q1,.int .i64 E.1.head,.int .i64 E.1.foot,.slice r1 E.1.rows.length s1,.int .i64 E.1.gap] 37)=W2 at HK HT H1 C0 R0 C1 R1 ⊢
 generalize w2.heap.size=b1x at H1 ⊢
 obtain ⟨m0,m1,m2,m3,m4⟩:=fiveO HT.out
 go_wp2_with fail
 refine (KSp.out _ _ _ _ _ _ C0.out R0.out).mono ?_
 rintro e w3 ⟨p2,q2,r2,s2,d1,d2,rfl,hO,hb⟩
 have hXC:=hO.cols
 have hXR:=hO.rows HTe.out
 obtain ⟨_,_,e1,_⟩:=At.form hXC
 simp only [Value.slice.injEq] at e1
 have e1':=e1.2.1
 clear e1
 subst e1'
 obtain ⟨_,_,e2,_⟩:=At.form hXR
 simp only [Value.slice.injEq] at e2
 have e2':=e2.2.1
 clear e2
 subst e2'
 have C2:=Hid.intro hXC
 have R2:=Hid.intro hXR
 replace HK:=Hid.intro (k_trans HK.out hb)
 replace HT:=Hid.intro (box_kept HT.out hb)
 replace H1:=Hid.intro (box_kept H1.out hb)
 replace C0:=Hid.intro (C0.out.kept hb)
 replace R0:=Hid.intro (R0.out.kept hb)
 replace C1:=Hid.intro (C1.out.kept hb)
 replace R1:=Hid.intro (R1.out.kept hb)
 clear m0 m1 m2 m3 m4
 clear hb hO hXC hXR
 replace HK:=Hid.intro (k_trans HK.out (k_alloc (Below.refl _ _) (.cells #[.slice p2 E.1.cols.length q2,.int .i64 E.1.head,.int .i64 E.1.foot,.slice r2 E.1.rows.length s2,.int .i64 E.1.gap] 37)))
 replace HT:=Hid.intro (box_kept HT.out (k_alloc (Below.refl _ _) (.cells #[.slice p2 E.1.cols.length q2,.int .i64 E.1.head,.int .i64 E.1.foot,.slice r2 E.1.rows.length s2,.int .i64 E.1.gap] 37)))
 replace H1:=Hid.intro (box_kept H1.out (k_alloc (Below.refl _ _) (.cells #[.slice p2 E.1.cols.length q2,.int .i64 E.1.head,.int .i64 E.1.foot,.slice r2 E.1.rows.length s2,.int .i64 E.1.gap] 37)))
 replace C0:=Hid.intro (C0.out.kept (k_alloc (Below.refl _ _) (.cells #[.slice p2 E.1.cols.length q2,.int .i64 E.1.head,.int .i64 E.1.foot,.slice r2 E.1.rows.length s2,.int .i64 E.1.gap] 37)))
 replace R0:=Hid.intro (R0.out.kept (k_alloc (Below.refl _ _) (.cells #[.slice p2 E.1.cols.length q2,.int .i64 E.1.head,.int .i64 E.1.foot,.slice r2 E.1.rows.length s2,.int .i64 E.1.gap] 37)))
 replace C1:=Hid.intro (C1.out.kept (k_alloc (Below.refl _ _) (.cells #[.slice p2 E.1.cols.length q2,.int .i64 E.1.head,.int .i64 E.1.foot,.slice r2 E.1.rows.length s2,.int .i64 E.1.gap] 37)))
 replace R1:=Hid.intro (R1.out.kept (k_alloc (Below.refl _ _) (.cells #[.slice p2 E.1.cols.length q2,.int .i64 E.1.head,.int .i64 E.1.foot,.slice r2 E.1.rows.length s2,.int .i64 E.1.gap] 37)))
 replace C2:=Hid.intro (C2.out.kept (k_alloc (Below.refl _ _) (.cells #[.slice p2 E.1.cols.length q2,.int .i64 E.1.head,.int .i64 E.1.foot,.slice r2 E.1.rows.length s2,.int .i64 E.1.gap] 37)))
 replace R2:=Hid.intro (R2.out.kept (k_alloc (Below.refl _ _) (.cells #[.slice p2 E.1.cols.length q2,.int .i64 E.1.head,.int .i64 E.1.foot,.slice r2 E.1.rows.length s2,.int .i64 E.1.gap] 37)))
 have H2:=Hid.intro (newestB w3 (.cells #[.slice p2 E.1.cols.length q2,.int .i64 E.1.head,.int .i64 E.1.foot,.slice r2 E.1.rows.length s2,.int .i64 E.1.gap] 37))
 go_upto_region 6 with fail
 generalize w3.alloc (.cells #[.slice p2 E.1.cols.length q2,.int .i64 E.1.head,.int .i64 E.1.foot,.slice r2 E.1.rows.length s2,.int .i64 E.1.gap] 37)=W3 at HK HT H1 H2 C0 R0 C1 R1 C2 R2 ⊢
 generalize w3.heap.size=b2x at H2 ⊢
 obtain ⟨m0,m1,m2,m3,m4⟩:=fiveO H1.out
 obtain ⟨n0,n1,n2,n3,n4⟩:=fiveO H2.out
 go_wp2_with fail
 refine (pwTable_same _ _ E.1 _ ⟨_,_,rfl,C1.out,R1.out⟩ ⟨_,_,rfl,C2.out,R2.out⟩).mono ?_
 rintro e w4 ⟨rfl,hb⟩
 replace HK:=Hid.intro (k_trans HK.out hb)
 replace HT:=Hid.intro (box_kept HT.out hb)
 replace H1:=Hid.intro (box_kept H1.out hb)
 replace C0:=Hid.intro (C0.out.kept hb)
 replace R0:=Hid.intro (R0.out.kept hb)
 replace C1:=Hid.intro (C1.out.kept hb)
 replace R1:=Hid.intro (R1.out.kept hb)
 clear m0 m1 m2 m3 m4 n0 n1 n2 n3 n4
 clear hb H2 C2 R2 KSp KIm
 obtain ⟨m0,m1,m2,m3,m4⟩:=fiveO HT.out
 have KT:=Hid.intro (specTblOk ac ar cc cr t w4 C0.out R0.out)
 cases htk:tblB t with
 | false =>
  rw [htk] at KT
  obtain rfl:E=(zT,false):=by rw [← HEq.out,edTake,if_neg (by rw [htk];simp)]
  clear htk HEq
  go_wp2_with fail
  refine KT.out.mono ?_
  rintro e w5 ⟨rfl,hb⟩
  replace HK:=Hid.intro (k_trans HK.out hb)
  replace HT:=Hid.intro (box_kept HT.out hb)
  replace H1:=Hid.intro (box_kept H1.out hb)
  replace C0:=Hid.intro (C0.out.kept hb)
  replace R0:=Hid.intro (R0.out.kept hb)
  replace C1:=Hid.intro (C1.out.kept hb)
  replace R1:=Hid.intro (R1.out.kept hb)
  clear m0 m1 m2 m3 m4
  clear hb KT
  obtain ⟨m0,m1,m2,m3,m4⟩:=fiveO H1.out
  go_wp2_with fail
  refine (pwTable_same _ _ zT _ ⟨_,_,rfl,C1.out,R1.out⟩ (z2:=0) ⟨_,_,rfl,⟨none,0,rfl,Nat.le_refl _,Nat.zero_le _,fun i hi=>absurd hi (by simp [zT])⟩,⟨none,0,rfl,Nat.le_refl _,Nat.zero_le _,fun i hi=>absurd hi (by simp [zT])⟩⟩).mono ?_
  rintro e w6 ⟨rfl,hb⟩
  replace HK:=Hid.intro (k_trans HK.out hb)
  clear m0 m1 m2 m3 m4
  clear hb
  go_wp2_with fail
  refine (pwOk_any _).mono ?_
  rintro e w7 ⟨rfl,e7⟩
  subst e7
  go_wp2
  go_ret
  exact ⟨rfl,HK.out⟩
 | true =>
  rw [htk] at KT
  have HTk:=Hid.intro htk
  clear htk
  go_wp2_with fail
  refine KT.out.mono ?_
  rintro e w5 ⟨rfl,hb⟩
  replace HK:=Hid.intro (k_trans HK.out hb)
  replace HT:=Hid.intro (box_kept HT.out hb)
  replace H1:=Hid.intro (box_kept H1.out hb)
  replace C0:=Hid.intro (C0.out.kept hb)
  replace R0:=Hid.intro (R0.out.kept hb)
  replace C1:=Hid.intro (C1.out.kept hb)
  replace R1:=Hid.intro (R1.out.kept hb)
  clear m0 m1 m2 m3 m4
  clear hb KT
  cases hpl:hasB t row at' with
  | false =>
   obtain rfl:E=(t,false):=by rw [← HEq.out,edTake,if_pos HTk.out,if_neg (by rw [hpl];simp)]
   clear hpl HEq
   obtain ⟨m0,m1,m2,m3,m4⟩:=fiveO H1.out
   obtain ⟨n0,n1,n2,n3,n4⟩:=fiveO HT.out
   go_wp2_with fail
   refine (pwTable_same _ _ t _ ⟨_,_,rfl,C1.out,R1.out⟩ ⟨_,_,rfl,C0.out,R0.out⟩).mono ?_
   rintro e w6 ⟨rfl,hb⟩
   replace HK:=Hid.intro (k_trans HK.out hb)
   clear hb
   go_wp2
   go_ret
   exact ⟨rfl,HK.out⟩
  | true =>
   obtain rfl:E=(setRow t row.toNat ((t.rows.getD row.toNat dR).cells.eraseIdx at'.toNat),true):=by rw [← HEq.out,edTake,if_pos HTk.out,if_pos hpl]
   obtain ⟨r,a,rfl,rfl,hr,ha⟩:=hasB_iff.1 hpl
   rw [Int.toNat_natCast,Int.toNat_natCast] at *
   have HOk:=Hid.intro (take_ok (a:=a) HTk.out hr)
   have HTo:=Hid.intro (tot_ok' HTk.out)
   have HTo2:=Hid.intro (tot_ok' HOk.out)
   have HCn:=Hid.intro (take_cells t hr ha)
   have HBk:=Hid.intro (take_back HTk.out hr ha)
   have HXl:=Hid.intro (setRow_len t r ((t.rows.getD r dR).cells.eraseIdx a))
   generalize setRow t r ((t.rows.getD r dR).cells.eraseIdx a)=X at *
   clear hpl HEq hbb hq1 hq2
   dsimp only at R1 H1 C1 HTe ⊢
   generalize Value.agg #[.slice ac t.cols.length cc,.int .i64 t.head,.int .i64 t.foot,.slice ar t.rows.length cr,.int .i64 t.gap]=va
   generalize Value.agg #[.slice p1 X.cols.length q1,.int .i64 X.head,.int .i64 X.foot,.slice r1 X.rows.length s1,.int .i64 X.gap]=vx
   generalize Value.agg #[.slice p2 X.cols.length q2,.int .i64 X.head,.int .i64 X.foot,.slice r2 X.rows.length s2,.int .i64 X.gap]=vw
   obtain ⟨bq,oq,cr',e',hq1,hq2,hlq,u,z0,z1,z2⟩:=At.get R0.out hr
   simp only [Value.slice.injEq,true_and] at e'
   obtain ⟨rfl,rfl⟩:=e'
   obtain ⟨bh,oh,cu,eu,hh1,hh2,hlh,y0,hys⟩:=At.get z2 ha
   subst eu
   generalize hyc:(t.rows.getD r dR).cells.getD a dC=y at y0 hys HBk
   generalize hml:(t.rows.getD r dR).cells.length=ml at *
   clear hyc hml z1 z2
   unfold maxLen at hq2 hh2
   obtain ⟨y0,y1,y2,y3,y4,y5,y6,y7,y8,y9,y10⟩:=y0
   go_upto_region 12 with fail
   have l1:=(Array.getElem?_eq_some_iff.1 HT.out).1
   have l2:=(Array.getElem?_eq_some_iff.1 H1.out).1
   have HZ0:=Hid.intro z0
   have HY:Hid (w5.cell? ⟨bh,oh+a * 11,none⟩=some (.string y.s)∧w5.cell? ⟨bh,oh+a * 11+1,none⟩=some (.int .i64 y.c)∧w5.cell? ⟨bh,oh+a * 11+2,none⟩=some (.int .i64 y.r)∧w5.cell? ⟨bh,oh+a * 11+3,none⟩=some (.int .i64 y.a1)∧w5.cell? ⟨bh,oh+a * 11+4,none⟩=some (.int .i64 y.b1)∧w5.cell? ⟨bh,oh+a * 11+5,none⟩=some (.int .i64 y.a2)∧w5.cell? ⟨bh,oh+a * 11+6,none⟩=some (.int .i64 y.b2)∧w5.cell? ⟨bh,oh+a * 11+7,none⟩=some (.int .i64 y.a3)∧w5.cell? ⟨bh,oh+a * 11+8,none⟩=some (.int .i64 y.b3)∧w5.cell? ⟨bh,oh+a * 11+9,none⟩=some (.int .i64 y.a4)∧w5.cell? ⟨bh,oh+a * 11+10,none⟩=some (.int .i64 y.b4)):=⟨y0,y1,y2,y3,y4,y5,y6,y7,y8,y9,y10⟩
   have KP:Hid (∀ W,Below w5.heap.size w5 W→Calls Try.prog 14 #[.agg #[.slice p1 X.cols.length q1,.int .i64 X.head,.int .i64 X.foot,.slice r1 X.rows.length s1,.int .i64 X.gap],.int .i64 r,.int .i64 a,.agg #[.string y.s,.int .i64 y.c,.int .i64 y.r,.int .i64 y.a1,.int .i64 y.b1,.int .i64 y.a2,.int .i64 y.b2,.int .i64 y.a3,.int .i64 y.b3,.int .i64 y.a4,.int .i64 y.b4]] W fun e w'=>∃ p q r' s,e=.returned (.tuple #[.agg #[.slice p t.cols.length q,.int .i64 t.head,.int .i64 t.foot,.slice r' t.rows.length s,.int .i64 t.gap],.bool true])∧OwnT w' w5.heap.size (.slice p t.cols.length q) (.slice r' t.rows.length s) t∧Below W.heap.size W w'):=fun W hW=>by
    have hk:=implEdtPut p1 r1 q1 s1 X (r:Int) (a:Int) hrow y hys W (C1.out.kept hW) (R1.out.kept hW)
    rw [HBk.out] at hk
    refine hk.mono ?_
    rintro e w' ⟨p,c,r',s,d1,d2,rfl,hO,hb⟩
    obtain ⟨_,_,e1,_⟩:=At.form hO.cols
    simp only [Value.slice.injEq] at e1
    have e1':=e1.2.1
    clear e1
    subst e1'
    obtain ⟨_,_,e2,_⟩:=At.form (hO.rows HTx.out)
    simp only [Value.slice.injEq] at e2
    have e2':=e2.2.1
    clear e2
    subst e2'
    exact ⟨p,c,r',s,rfl,hO.base hW.size,hb⟩
   clear z0 y0 y1 y2 y3 y4 y5 y6 y7 y8 y9 y10 hh1
   refine wp_region_inv2 (fun L act W=>∃ v10 v11 v62 v63 v64 v65 v66 v67 v68 v69 v70 v71 v72 v73 v74 v75 v76 v77:Value,act=⟨#[.slice A len cap,undef,.bool false,.pointer (some ⟨tb,0,none⟩),.int .i64 r,.int .i64 a,.pointer (some ⟨b1x,0,none⟩),.bool true,.pointer (some ⟨b2x,0,none⟩),.bool true,v10,v11,.slice A len cap,.int .i64 len,.bool false,.tuple #[va,.int .i64 r,.int .i64 a],.slice A len cap,.tuple #[va,.int .i64 r,.int .i64 a],va,.int .i64 r,.int .i64 a,.tuple #[vx,.bool true],va,.int .i64 r,.int .i64 a,.tuple #[vx,.bool true],vx,.bool true,.tuple #[vw,.bool true],va,.int .i64 r,.int .i64 a,.tuple #[vw,.bool true],vw,.bool true,.bool true,.bool true,.bool false,.bool false,vx,vw,.bool true,.bool false,.bool false,va,.bool true,.bool false,undef,undef,undef,undef,undef,undef,undef,undef,undef,undef,.bool true,.bool false,undef,undef,undef,v62,v63,v64,v65,v66,v67,v68,v69,v70,v71,v72,v73,v74,v75,v76,v77,undef,undef,undef,undef,undef,undef,undef,undef,undef,undef,undef,undef,undef,undef,undef,undef,undef,undef],[]⟩∧EtJ b1x tb bq oq bh oh r a ml cu cr p1 r1 q1 s1 X t y w5 L W v10 v11 v62 v63 v64 v65 v66 v67 v68 v69 v70 v71 v72 v73 v74 v75 v76 v77) hmx (by kernel_rfl) ?hs ?hd ?h0
   case h0=>exact ⟨_,_,_,_,_,_,_,_,_,_,_,_,_,_,_,_,_,_,rfl,⟨(fun h=>by cases h),(fun h=>by cases h),(fun h=>by cases h),(fun h=>by cases h),(fun h=>by cases h),(fun h=>by cases h),(fun h=>by cases h),(fun h=>by cases h),(fun h=>by cases h),(fun h=>by cases h),(fun h=>by cases h),(fun h=>by cases h),(fun h=>by cases h),(fun h=>by cases h),(fun h=>by cases h),(fun h=>by cases h),(fun h=>by cases h),(fun h=>by cases h),(fun h=>by cases h),(fun _=>k_drew (Below.refl _ _)),k_drew (Below.refl _ _)⟩⟩
   case hd =>
    intro L act W hJ hall
    obtain ⟨v10,v11,v62,v63,v64,v65,v66,v67,v68,v69,v70,v71,v72,v73,v74,v75,v76,v77,ha,J⟩:=hJ
    subst ha
    obtain ⟨p3,q3,r3,s3,e3,hO⟩:=J.f12 (hall 12 (by decide))
    obtain ⟨b3x,p4,q4,r4,s4,rfl,hbw,e4,hbk⟩:=J.f17 (hall 17 (by decide))
    obtain rfl:=J.f18 (hall 18 (by decide))
    have hb:=J.bb
    subst e3
    simp only [Value.tuple.injEq,Array.mk.injEq,List.cons.injEq,Value.agg.injEq,Value.slice.injEq,and_true,true_and] at e4
    obtain ⟨⟨rfl,rfl⟩,rfl,rfl⟩:=e4
    clear J hall
    have C3:=Hid.intro hO.cols
    have R3:=Hid.intro (hO.rows HTx.out)
    have H3:=Hid.intro hbk
    replace HK:=Hid.intro (k_trans HK.out hb)
    replace HT:=Hid.intro (box_kept HT.out hb)
    replace H1:=Hid.intro (box_kept H1.out hb)
    replace C0:=Hid.intro (C0.out.kept hb)
    replace R0:=Hid.intro (R0.out.kept hb)
    replace C1:=Hid.intro (C1.out.kept hb)
    replace R1:=Hid.intro (R1.out.kept hb)
    clear hb hO hbk hbw
    rename World=>wr
    go_upto_region 13 with fail
    generalize Value.agg #[.slice p3 t.cols.length q3,.int .i64 t.head,.int .i64 t.foot,.slice r3 t.rows.length s3,.int .i64 t.gap]=vy
    have l1:=(Array.getElem?_eq_some_iff.1 HT.out).1
    have l2:=(Array.getElem?_eq_some_iff.1 H1.out).1
    have l3:=(Array.getElem?_eq_some_iff.1 H3.out).1
    have hne:=bw_some wr
    have KO:=Hid.intro (fun (p:BW wr)=>bw_of (by have:=implTblOk p1 r1 q1 s1 X p.u (C1.out.kept p.h) (R1.out.kept p.h);rw [HOk.out] at this;exact this))
    have KC:=Hid.intro (fun (p:BW wr)=>bw_of (implTblCells p1 r1 q1 s1 X HTo2.out p.u (R1.out.kept p.h)))
    have KD:=Hid.intro (fun (p:BW wr)=>bw_of (by have:=implTblCells ac (some ⟨bq,oq,none⟩) cc cr t HTo.out p.u (R0.out.kept p.h);rw [← HCn.out] at this;exact this))
    have KE:=Hid.intro (fun (p:BW wr)=>bw_of (pwTable_same _ _ t p.u ⟨_,_,rfl,C3.out.kept p.h,R3.out.kept p.h⟩ ⟨_,_,rfl,C0.out.kept p.h,R0.out.kept p.h⟩))
    have hcs:cnTo X.rows X.rows.length≤1048576:=Nat.le_trans (cnTo_le _ _) HTo2.out
    generalize cnTo X.rows X.rows.length=cn at KC KD hcs
    have hcc:((cn:Int) == ((cn+1:Nat):Int) - 1)=true:=by simp
    have hcc2:((cn:Int) == (cn:Int)+1 - 1)=true:=by simp
    obtain ⟨t0,t1,t2,t3,t4⟩:=fiveO HT.out
    have m0:=bw_cell (a:=⟨tb,0,none⟩) l1 t0
    have m1:=bw_cell (a:=⟨tb,1,none⟩) l1 t1
    have m2:=bw_cell (a:=⟨tb,2,none⟩) l1 t2
    have m3:=bw_cell (a:=⟨tb,3,none⟩) l1 t3
    have m4:=bw_cell (a:=⟨tb,4,none⟩) l1 t4
    clear t0 t1 t2 t3 t4
    obtain ⟨t0,t1,t2,t3,t4⟩:=fiveO H1.out
    have n0:=bw_cell (a:=⟨b1x,0,none⟩) l2 t0
    have n1:=bw_cell (a:=⟨b1x,1,none⟩) l2 t1
    have n2:=bw_cell (a:=⟨b1x,2,none⟩) l2 t2
    have n3:=bw_cell (a:=⟨b1x,3,none⟩) l2 t3
    have n4:=bw_cell (a:=⟨b1x,4,none⟩) l2 t4
    clear t0 t1 t2 t3 t4
    obtain ⟨t0,t1,t2,t3,t4⟩:=fiveO H3.out
    have o0:=bw_cell (a:=⟨b3x,0,none⟩) l3 t0
    have o1:=bw_cell (a:=⟨b3x,1,none⟩) l3 t1
    have o2:=bw_cell (a:=⟨b3x,2,none⟩) l3 t2
    have o3:=bw_cell (a:=⟨b3x,3,none⟩) l3 t3
    have o4:=bw_cell (a:=⟨b3x,4,none⟩) l3 t4
    clear t0 t1 t2 t3 t4
    refine wp_region_quiet_below hmx (by kernel_rfl) ?_
    repeat (go_big_quiet_step (first | (go_at_call 19;refine KO.out _) | (go_at_call 16;refine KE.out _) | (go_at_call 20;first | (with_reducible refine KC.out _) | (with_reducible refine KD.out _))))
    refine wpQuiet_nil ?_
    intro W9 hw'
    obtain ⟨⟨Wx,hW9⟩,hw''⟩:=hw'
    subst hw''
    have HB9:=Hid.intro (k_trans HK.out hW9)
    clear hW9
    go_wp2
    go_ret
    exact ⟨rfl,HB9.out⟩
   case hs =>
    intro L act W i o hJ hcl ho hLi haft K hK
    obtain ⟨v10,v11,v62,v63,v64,v65,v66,v67,v68,v69,v70,v71,v72,v73,v74,v75,v76,v77,ha,J⟩:=hJ
    subst ha
    have hi':i < 19:=by
     have:=(Array.getElem?_eq_some_iff.1 ho).1
     simpa using this
    rcases (by omega:i=0∨i=1∨i=2∨i=3∨i=4∨i=5∨i=6∨i=7∨i=8∨i=9∨i=10∨i=11∨i=12∨i=13∨i=14∨i=15∨i=16∨i=17∨i=18) with rfl | rfl | rfl | rfl | rfl | rfl | rfl | rfl | rfl | rfl | rfl | rfl | rfl | rfl | rfl | rfl | rfl | rfl | rfl
    all_goals
     simp only [List.getElem?_toArray,List.getElem?_cons_zero,List.getElem?_cons_succ,Option.some.injEq] at ho
     subst ho
     clear hi'
    ·skip
     have hN:=(hcl 17 14 (by kernel_rfl) (hcl 14 13 (by kernel_rfl) (hcl 13 12 (by kernel_rfl) (hcl 12 0 (by kernel_rfl) hLi))))
     have hB:=J.b hN
     obtain ⟨q0,q1',q2,q3,q4⟩:=fiveO ((hB.block _ l2).trans H1.out)
     go_simp
     exact hK _ _ ⟨_,_,_,_,_,_,_,_,_,_,_,_,_,_,_,_,_,_,rfl,⟨(fun _=>rfl),(fun h=>J.f1 (un h)),(fun h=>J.f2 (un h)),(fun h=>J.f3 (un h)),(fun h=>J.f4 (un h)),(fun h=>J.f5 (un h)),(fun h=>J.f6 (un h)),(fun h=>J.f7 (un h)),(fun h=>J.f8 (un h)),(fun h=>J.f9 (un h)),(fun h=>J.f10 (un h)),(fun h=>J.f11 (un h)),(fun h=>absurd (((hcl 12 0 (by kernel_rfl) hLi)).symm.trans (un h)) (by simp)),(fun h=>absurd (((hcl 13 12 (by kernel_rfl) (hcl 12 0 (by kernel_rfl) hLi))).symm.trans (un h)) (by simp)),(fun h=>absurd (((hcl 14 13 (by kernel_rfl) (hcl 13 12 (by kernel_rfl) (hcl 12 0 (by kernel_rfl) hLi)))).symm.trans (un h)) (by simp)),(fun h=>absurd (((hcl 15 13 (by kernel_rfl) (hcl 13 12 (by kernel_rfl) (hcl 12 0 (by kernel_rfl) hLi)))).symm.trans (un h)) (by simp)),(fun h h2=>(J.f16 (un h) (un h2))),(fun h=>absurd (((hcl 17 14 (by kernel_rfl) (hcl 14 13 (by kernel_rfl) (hcl 13 12 (by kernel_rfl) (hcl 12 0 (by kernel_rfl) hLi))))).symm.trans (un h)) (by simp)),(fun h=>absurd (((hcl 18 15 (by kernel_rfl) (hcl 15 13 (by kernel_rfl) (hcl 13 12 (by kernel_rfl) (hcl 12 0 (by kernel_rfl) hLi))))).symm.trans (un h)) (by simp)),(fun _=>hB),J.bb⟩⟩
    ·skip
     have hN:=(hcl 17 14 (by kernel_rfl) (hcl 14 13 (by kernel_rfl) (hcl 13 12 (by kernel_rfl) (hcl 12 1 (by kernel_rfl) hLi))))
     have hB:=J.b hN
     go_simp
     exact hK _ _ ⟨_,_,_,_,_,_,_,_,_,_,_,_,_,_,_,_,_,_,rfl,⟨(fun h=>J.f0 (un h)),(fun _=>rfl),(fun h=>J.f2 (un h)),(fun h=>J.f3 (un h)),(fun h=>J.f4 (un h)),(fun h=>J.f5 (un h)),(fun h=>J.f6 (un h)),(fun h=>J.f7 (un h)),(fun h=>J.f8 (un h)),(fun h=>J.f9 (un h)),(fun h=>J.f10 (un h)),(fun h=>J.f11 (un h)),(fun h=>absurd (((hcl 12 1 (by kernel_rfl) hLi)).symm.trans (un h)) (by simp)),(fun h=>absurd (((hcl 13 12 (by kernel_rfl) (hcl 12 1 (by kernel_rfl) hLi))).symm.trans (un h)) (by simp)),(fun h=>absurd (((hcl 14 13 (by kernel_rfl) (hcl 13 12 (by kernel_rfl) (hcl 12 1 (by kernel_rfl) hLi)))).symm.trans (un h)) (by simp)),(fun h=>absurd (((hcl 15 13 (by kernel_rfl) (hcl 13 12 (by kernel_rfl) (hcl 12 1 (by kernel_rfl) hLi)))).symm.trans (un h)) (by simp)),(fun h h2=>(J.f16 (un h) (un h2))),(fun h=>absurd (((hcl 17 14 (by kernel_rfl) (hcl 14 13 (by kernel_rfl) (hcl 13 12 (by kernel_rfl) (hcl 12 1 (by kernel_rfl) hLi))))).symm.trans (un h)) (by simp)),(fun h=>absurd (((hcl 18 15 (by kernel_rfl) (hcl 15 13 (by kernel_rfl) (hcl 13 12 (by kernel_rfl) (hcl 12 1 (by kernel_rfl) hLi))))).symm.trans (un h)) (by simp)),(fun _=>hB),J.bb⟩⟩
    ·skip
     have hN:=(hcl 17 14 (by kernel_rfl) (hcl 14 13 (by kernel_rfl) (hcl 13 12 (by kernel_rfl) (hcl 12 2 (by kernel_rfl) hLi))))
     have hB:=J.b hN
     go_simp
     exact hK _ _ ⟨_,_,_,_,_,_,_,_,_,_,_,_,_,_,_,_,_,_,rfl,⟨(fun h=>J.f0 (un h)),(fun h=>J.f1 (un h)),(fun _=>rfl),(fun h=>J.f3 (un h)),(fun h=>J.f4 (un h)),(fun h=>J.f5 (un h)),(fun h=>J.f6 (un h)),(fun h=>J.f7 (un h)),(fun h=>J.f8 (un h)),(fun h=>J.f9 (un h)),(fun h=>J.f10 (un h)),(fun h=>J.f11 (un h)),(fun h=>absurd (((hcl 12 2 (by kernel_rfl) hLi)).symm.trans (un h)) (by simp)),(fun h=>absurd (((hcl 13 12 (by kernel_rfl) (hcl 12 2 (by kernel_rfl) hLi))).symm.trans (un h)) (by simp)),(fun h=>absurd (((hcl 14 13 (by kernel_rfl) (hcl 13 12 (by kernel_rfl) (hcl 12 2 (by kernel_rfl) hLi)))).symm.trans (un h)) (by simp)),(fun h=>absurd (((hcl 15 13 (by kernel_rfl) (hcl 13 12 (by kernel_rfl) (hcl 12 2 (by kernel_rfl) hLi)))).symm.trans (un h)) (by simp)),(fun h h2=>(J.f16 (un h) (un h2))),(fun h=>absurd (((hcl 17 14 (by kernel_rfl) (hcl 14 13 (by kernel_rfl) (hcl 13 12 (by kernel_rfl) (hcl 12 2 (by kernel_rfl) hLi))))).symm.trans (un h)) (by simp)),(fun h=>absurd (((hcl 18 15 (by kernel_rfl) (hcl 15 13 (by kernel_rfl) (hcl 13 12 (by kernel_rfl) (hcl 12 2 (by kernel_rfl) hLi))))).symm.trans (un h)) (by simp)),(fun _=>hB),J.bb⟩⟩
    ·skip
     have hN:=(hcl 17 14 (by kernel_rfl) (hcl 14 13 (by kernel_rfl) (hcl 13 12 (by kernel_rfl) (hcl 12 11 (by kernel_rfl) (hcl 11 10 (by kernel_rfl) (hcl 10 8 (by kernel_rfl) (hcl 8 7 (by kernel_rfl) (hcl 7 6 (by kernel_rfl) (hcl 6 4 (by kernel_rfl) (hcl 4 3 (by kernel_rfl) hLi))))))))))
     have hB:=J.b hN
     go_simp
     exact hK _ _ ⟨_,_,_,_,_,_,_,_,_,_,_,_,_,_,_,_,_,_,rfl,⟨(fun h=>J.f0 (un h)),(fun h=>J.f1 (un h)),(fun h=>J.f2 (un h)),(fun _=>rfl),(fun h=>absurd (((hcl 4 3 (by kernel_rfl) hLi)).symm.trans (un h)) (by simp)),(fun h=>J.f5 (un h)),(fun h=>absurd (((hcl 6 4 (by kernel_rfl) (hcl 4 3 (by kernel_rfl) hLi))).symm.trans (un h)) (by simp)),(fun h=>absurd (((hcl 7 6 (by kernel_rfl) (hcl 6 4 (by kernel_rfl) (hcl 4 3 (by kernel_rfl) hLi)))).symm.trans (un h)) (by simp)),(fun h=>absurd (((hcl 8 7 (by kernel_rfl) (hcl 7 6 (by kernel_rfl) (hcl 6 4 (by kernel_rfl) (hcl 4 3 (by kernel_rfl) hLi))))).symm.trans (un h)) (by simp)),(fun h=>J.f9 (un h)),(fun h=>absurd (((hcl 10 8 (by kernel_rfl) (hcl 8 7 (by kernel_rfl) (hcl 7 6 (by kernel_rfl) (hcl 6 4 (by kernel_rfl) (hcl 4 3 (by kernel_rfl) hLi)))))).symm.trans (un h)) (by simp)),(fun h=>absurd (((hcl 11 10 (by kernel_rfl) (hcl 10 8 (by kernel_rfl) (hcl 8 7 (by kernel_rfl) (hcl 7 6 (by kernel_rfl) (hcl 6 4 (by kernel_rfl) (hcl 4 3 (by kernel_rfl) hLi))))))).symm.trans (un h)) (by simp)),(fun h=>absurd (((hcl 12 11 (by kernel_rfl) (hcl 11 10 (by kernel_rfl) (hcl 10 8 (by kernel_rfl) (hcl 8 7 (by kernel_rfl) (hcl 7 6 (by kernel_rfl) (hcl 6 4 (by kernel_rfl) (hcl 4 3 (by kernel_rfl) hLi)))))))).symm.trans (un h)) (by simp)),(fun h=>absurd (((hcl 13 12 (by kernel_rfl) (hcl 12 11 (by kernel_rfl) (hcl 11 10 (by kernel_rfl) (hcl 10 8 (by kernel_rfl) (hcl 8 7 (by kernel_rfl) (hcl 7 6 (by kernel_rfl) (hcl 6 4 (by kernel_rfl) (hcl 4 3 (by kernel_rfl) hLi))))))))).symm.trans (un h)) (by simp)),(fun h=>absurd (((hcl 14 13 (by kernel_rfl) (hcl 13 12 (by kernel_rfl) (hcl 12 11 (by kernel_rfl) (hcl 11 10 (by kernel_rfl) (hcl 10 8 (by kernel_rfl) (hcl 8 7 (by kernel_rfl) (hcl 7 6 (by kernel_rfl) (hcl 6 4 (by kernel_rfl) (hcl 4 3 (by kernel_rfl) hLi)))))))))).symm.trans (un h)) (by simp)),(fun h=>absurd (((hcl 15 13 (by kernel_rfl) (hcl 13 12 (by kernel_rfl) (hcl 12 11 (by kernel_rfl) (hcl 11 10 (by kernel_rfl) (hcl 10 8 (by kernel_rfl) (hcl 8 7 (by kernel_rfl) (hcl 7 6 (by kernel_rfl) (hcl 6 4 (by kernel_rfl) (hcl 4 3 (by kernel_rfl) hLi)))))))))).symm.trans (un h)) (by simp)),(fun h h2=>(J.f16 (un h) (un h2))),(fun h=>absurd (((hcl 17 14 (by kernel_rfl) (hcl 14 13 (by kernel_rfl) (hcl 13 12 (by kernel_rfl) (hcl 12 11 (by kernel_rfl) (hcl 11 10 (by kernel_rfl) (hcl 10 8 (by kernel_rfl) (hcl 8 7 (by kernel_rfl) (hcl 7 6 (by kernel_rfl) (hcl 6 4 (by kernel_rfl) (hcl 4 3 (by kernel_rfl) hLi))))))))))).symm.trans (un h)) (by simp)),(fun h=>absurd (((hcl 18 15 (by kernel_rfl) (hcl 15 13 (by kernel_rfl) (hcl 13 12 (by kernel_rfl) (hcl 12 11 (by kernel_rfl) (hcl 11 10 (by kernel_rfl) (hcl 10 8 (by kernel_rfl) (hcl 8 7 (by kernel_rfl) (hcl 7 6 (by kernel_rfl) (hcl 6 4 (by kernel_rfl) (hcl 4 3 (by kernel_rfl) hLi))))))))))).symm.trans (un h)) (by simp)),(fun _=>hB),J.bb⟩⟩
    ·skip
     have hN:=(hcl 17 14 (by kernel_rfl) (hcl 14 13 (by kernel_rfl) (hcl 13 12 (by kernel_rfl) (hcl 12 11 (by kernel_rfl) (hcl 11 10 (by kernel_rfl) (hcl 10 8 (by kernel_rfl) (hcl 8 7 (by kernel_rfl) (hcl 7 6 (by kernel_rfl) (hcl 6 4 (by kernel_rfl) hLi)))))))))
     have hB:=J.b hN
     obtain rfl:=J.f3 (haft ⟨3,.data⟩ (by simp) rfl)
     obtain ⟨q0,q1',q2,q3,q4⟩:=fiveO ((hB.block _ l1).trans HT.out)
     go_simp
     exact hK _ _ ⟨_,_,_,_,_,_,_,_,_,_,_,_,_,_,_,_,_,_,rfl,⟨(fun h=>J.f0 (un h)),(fun h=>J.f1 (un h)),(fun h=>J.f2 (un h)),(fun h=>J.f3 (un h)),(fun _=>rfl),(fun h=>J.f5 (un h)),(fun h=>absurd (((hcl 6 4 (by kernel_rfl) hLi)).symm.trans (un h)) (by simp)),(fun h=>absurd (((hcl 7 6 (by kernel_rfl) (hcl 6 4 (by kernel_rfl) hLi))).symm.trans (un h)) (by simp)),(fun h=>absurd (((hcl 8 7 (by kernel_rfl) (hcl 7 6 (by kernel_rfl) (hcl 6 4 (by kernel_rfl) hLi)))).symm.trans (un h)) (by simp)),(fun h=>J.f9 (un h)),(fun h=>absurd (((hcl 10 8 (by kernel_rfl) (hcl 8 7 (by kernel_rfl) (hcl 7 6 (by kernel_rfl) (hcl 6 4 (by kernel_rfl) hLi))))).symm.trans (un h)) (by simp)),(fun h=>absurd (((hcl 11 10 (by kernel_rfl) (hcl 10 8 (by kernel_rfl) (hcl 8 7 (by kernel_rfl) (hcl 7 6 (by kernel_rfl) (hcl 6 4 (by kernel_rfl) hLi)))))).symm.trans (un h)) (by simp)),(fun h=>absurd (((hcl 12 11 (by kernel_rfl) (hcl 11 10 (by kernel_rfl) (hcl 10 8 (by kernel_rfl) (hcl 8 7 (by kernel_rfl) (hcl 7 6 (by kernel_rfl) (hcl 6 4 (by kernel_rfl) hLi))))))).symm.trans (un h)) (by simp)),(fun h=>absurd (((hcl 13 12 (by kernel_rfl) (hcl 12 11 (by kernel_rfl) (hcl 11 10 (by kernel_rfl) (hcl 10 8 (by kernel_rfl) (hcl 8 7 (by kernel_rfl) (hcl 7 6 (by kernel_rfl) (hcl 6 4 (by kernel_rfl) hLi)))))))).symm.trans (un h)) (by simp)),(fun h=>absurd (((hcl 14 13 (by kernel_rfl) (hcl 13 12 (by kernel_rfl) (hcl 12 11 (by kernel_rfl) (hcl 11 10 (by kernel_rfl) (hcl 10 8 (by kernel_rfl) (hcl 8 7 (by kernel_rfl) (hcl 7 6 (by kernel_rfl) (hcl 6 4 (by kernel_rfl) hLi))))))))).symm.trans (un h)) (by simp)),(fun h=>absurd (((hcl 15 13 (by kernel_rfl) (hcl 13 12 (by kernel_rfl) (hcl 12 11 (by kernel_rfl) (hcl 11 10 (by kernel_rfl) (hcl 10 8 (by kernel_rfl) (hcl 8 7 (by kernel_rfl) (hcl 7 6 (by kernel_rfl) (hcl 6 4 (by kernel_rfl) hLi))))))))).symm.trans (un h)) (by simp)),(fun h h2=>(J.f16 (un h) (un h2))),(fun h=>absurd (((hcl 17 14 (by kernel_rfl) (hcl 14 13 (by kernel_rfl) (hcl 13 12 (by kernel_rfl) (hcl 12 11 (by kernel_rfl) (hcl 11 10 (by kernel_rfl) (hcl 10 8 (by kernel_rfl) (hcl 8 7 (by kernel_rfl) (hcl 7 6 (by kernel_rfl) (hcl 6 4 (by kernel_rfl) hLi)))))))))).symm.trans (un h)) (by simp)),(fun h=>absurd (((hcl 18 15 (by kernel_rfl) (hcl 15 13 (by kernel_rfl) (hcl 13 12 (by kernel_rfl) (hcl 12 11 (by kernel_rfl) (hcl 11 10 (by kernel_rfl) (hcl 10 8 (by kernel_rfl) (hcl 8 7 (by kernel_rfl) (hcl 7 6 (by kernel_rfl) (hcl 6 4 (by kernel_rfl) hLi)))))))))).symm.trans (un h)) (by simp)),(fun _=>hB),J.bb⟩⟩
    ·skip
     have hN:=(hcl 17 14 (by kernel_rfl) (hcl 14 13 (by kernel_rfl) (hcl 13 12 (by kernel_rfl) (hcl 12 11 (by kernel_rfl) (hcl 11 10 (by kernel_rfl) (hcl 10 8 (by kernel_rfl) (hcl 8 7 (by kernel_rfl) (hcl 7 6 (by kernel_rfl) (hcl 6 5 (by kernel_rfl) hLi)))))))))
     have hB:=J.b hN
     go_simp
     exact hK _ _ ⟨_,_,_,_,_,_,_,_,_,_,_,_,_,_,_,_,_,_,rfl,⟨(fun h=>J.f0 (un h)),(fun h=>J.f1 (un h)),(fun h=>J.f2 (un h)),(fun h=>J.f3 (un h)),(fun h=>J.f4 (un h)),(fun _=>rfl),(fun h=>absurd (((hcl 6 5 (by kernel_rfl) hLi)).symm.trans (un h)) (by simp)),(fun h=>absurd (((hcl 7 6 (by kernel_rfl) (hcl 6 5 (by kernel_rfl) hLi))).symm.trans (un h)) (by simp)),(fun h=>absurd (((hcl 8 7 (by kernel_rfl) (hcl 7 6 (by kernel_rfl) (hcl 6 5 (by kernel_rfl) hLi)))).symm.trans (un h)) (by simp)),(fun h=>J.f9 (un h)),(fun h=>absurd (((hcl 10 8 (by kernel_rfl) (hcl 8 7 (by kernel_rfl) (hcl 7 6 (by kernel_rfl) (hcl 6 5 (by kernel_rfl) hLi))))).symm.trans (un h)) (by simp)),(fun h=>absurd (((hcl 11 10 (by kernel_rfl) (hcl 10 8 (by kernel_rfl) (hcl 8 7 (by kernel_rfl) (hcl 7 6 (by kernel_rfl) (hcl 6 5 (by kernel_rfl) hLi)))))).symm.trans (un h)) (by simp)),(fun h=>absurd (((hcl 12 11 (by kernel_rfl) (hcl 11 10 (by kernel_rfl) (hcl 10 8 (by kernel_rfl) (hcl 8 7 (by kernel_rfl) (hcl 7 6 (by kernel_rfl) (hcl 6 5 (by kernel_rfl) hLi))))))).symm.trans (un h)) (by simp)),(fun h=>absurd (((hcl 13 12 (by kernel_rfl) (hcl 12 11 (by kernel_rfl) (hcl 11 10 (by kernel_rfl) (hcl 10 8 (by kernel_rfl) (hcl 8 7 (by kernel_rfl) (hcl 7 6 (by kernel_rfl) (hcl 6 5 (by kernel_rfl) hLi)))))))).symm.trans (un h)) (by simp)),(fun h=>absurd (((hcl 14 13 (by kernel_rfl) (hcl 13 12 (by kernel_rfl) (hcl 12 11 (by kernel_rfl) (hcl 11 10 (by kernel_rfl) (hcl 10 8 (by kernel_rfl) (hcl 8 7 (by kernel_rfl) (hcl 7 6 (by kernel_rfl) (hcl 6 5 (by kernel_rfl) hLi))))))))).symm.trans (un h)) (by simp)),(fun h=>absurd (((hcl 15 13 (by kernel_rfl) (hcl 13 12 (by kernel_rfl) (hcl 12 11 (by kernel_rfl) (hcl 11 10 (by kernel_rfl) (hcl 10 8 (by kernel_rfl) (hcl 8 7 (by kernel_rfl) (hcl 7 6 (by kernel_rfl) (hcl 6 5 (by kernel_rfl) hLi))))))))).symm.trans (un h)) (by simp)),(fun h h2=>(J.f16 (un h) (un h2))),(fun h=>absurd (((hcl 17 14 (by kernel_rfl) (hcl 14 13 (by kernel_rfl) (hcl 13 12 (by kernel_rfl) (hcl 12 11 (by kernel_rfl) (hcl 11 10 (by kernel_rfl) (hcl 10 8 (by kernel_rfl) (hcl 8 7 (by kernel_rfl) (hcl 7 6 (by kernel_rfl) (hcl 6 5 (by kernel_rfl) hLi)))))))))).symm.trans (un h)) (by simp)),(fun h=>absurd (((hcl 18 15 (by kernel_rfl) (hcl 15 13 (by kernel_rfl) (hcl 13 12 (by kernel_rfl) (hcl 12 11 (by kernel_rfl) (hcl 11 10 (by kernel_rfl) (hcl 10 8 (by kernel_rfl) (hcl 8 7 (by kernel_rfl) (hcl 7 6 (by kernel_rfl) (hcl 6 5 (by kernel_rfl) hLi)))))))))).symm.trans (un h)) (by simp)),(fun _=>hB),J.bb⟩⟩
    ·skip
     have hN:=(hcl 17 14 (by kernel_rfl) (hcl 14 13 (by kernel_rfl) (hcl 13 12 (by kernel_rfl) (hcl 12 11 (by kernel_rfl) (hcl 11 10 (by kernel_rfl) (hcl 10 8 (by kernel_rfl) (hcl 8 7 (by kernel_rfl) (hcl 7 6 (by kernel_rfl) hLi))))))))
     have hB:=J.b hN
     obtain rfl:=J.f4 (haft ⟨4,.data⟩ (by simp) rfl)
     obtain rfl:=J.f5 (haft ⟨5,.data⟩ (by simp) rfl)
     go_simp
     exact hK _ _ ⟨_,_,_,_,_,_,_,_,_,_,_,_,_,_,_,_,_,_,rfl,⟨(fun h=>J.f0 (un h)),(fun h=>J.f1 (un h)),(fun h=>J.f2 (un h)),(fun h=>J.f3 (un h)),(fun h=>J.f4 (un h)),(fun h=>J.f5 (un h)),(fun _=>rfl),(fun h=>absurd (((hcl 7 6 (by kernel_rfl) hLi)).symm.trans (un h)) (by simp)),(fun h=>absurd (((hcl 8 7 (by kernel_rfl) (hcl 7 6 (by kernel_rfl) hLi))).symm.trans (un h)) (by simp)),(fun h=>J.f9 (un h)),(fun h=>absurd (((hcl 10 8 (by kernel_rfl) (hcl 8 7 (by kernel_rfl) (hcl 7 6 (by kernel_rfl) hLi)))).symm.trans (un h)) (by simp)),(fun h=>absurd (((hcl 11 10 (by kernel_rfl) (hcl 10 8 (by kernel_rfl) (hcl 8 7 (by kernel_rfl) (hcl 7 6 (by kernel_rfl) hLi))))).symm.trans (un h)) (by simp)),(fun h=>absurd (((hcl 12 11 (by kernel_rfl) (hcl 11 10 (by kernel_rfl) (hcl 10 8 (by kernel_rfl) (hcl 8 7 (by kernel_rfl) (hcl 7 6 (by kernel_rfl) hLi)))))).symm.trans (un h)) (by simp)),(fun h=>absurd (((hcl 13 12 (by kernel_rfl) (hcl 12 11 (by kernel_rfl) (hcl 11 10 (by kernel_rfl) (hcl 10 8 (by kernel_rfl) (hcl 8 7 (by kernel_rfl) (hcl 7 6 (by kernel_rfl) hLi))))))).symm.trans (un h)) (by simp)),(fun h=>absurd (((hcl 14 13 (by kernel_rfl) (hcl 13 12 (by kernel_rfl) (hcl 12 11 (by kernel_rfl) (hcl 11 10 (by kernel_rfl) (hcl 10 8 (by kernel_rfl) (hcl 8 7 (by kernel_rfl) (hcl 7 6 (by kernel_rfl) hLi)))))))).symm.trans (un h)) (by simp)),(fun h=>absurd (((hcl 15 13 (by kernel_rfl) (hcl 13 12 (by kernel_rfl) (hcl 12 11 (by kernel_rfl) (hcl 11 10 (by kernel_rfl) (hcl 10 8 (by kernel_rfl) (hcl 8 7 (by kernel_rfl) (hcl 7 6 (by kernel_rfl) hLi)))))))).symm.trans (un h)) (by simp)),(fun h h2=>(J.f16 (un h) (un h2))),(fun h=>absurd (((hcl 17 14 (by kernel_rfl) (hcl 14 13 (by kernel_rfl) (hcl 13 12 (by kernel_rfl) (hcl 12 11 (by kernel_rfl) (hcl 11 10 (by kernel_rfl) (hcl 10 8 (by kernel_rfl) (hcl 8 7 (by kernel_rfl) (hcl 7 6 (by kernel_rfl) hLi))))))))).symm.trans (un h)) (by simp)),(fun h=>absurd (((hcl 18 15 (by kernel_rfl) (hcl 15 13 (by kernel_rfl) (hcl 13 12 (by kernel_rfl) (hcl 12 11 (by kernel_rfl) (hcl 11 10 (by kernel_rfl) (hcl 10 8 (by kernel_rfl) (hcl 8 7 (by kernel_rfl) (hcl 7 6 (by kernel_rfl) hLi))))))))).symm.trans (un h)) (by simp)),(fun _=>hB),J.bb⟩⟩
    ·skip
     have hN:=(hcl 17 14 (by kernel_rfl) (hcl 14 13 (by kernel_rfl) (hcl 13 12 (by kernel_rfl) (hcl 12 11 (by kernel_rfl) (hcl 11 10 (by kernel_rfl) (hcl 10 8 (by kernel_rfl) (hcl 8 7 (by kernel_rfl) hLi)))))))
     have hB:=J.b hN
     obtain rfl:=J.f6 (haft ⟨6,.data⟩ (by simp) rfl)
     go_simp
     exact hK _ _ ⟨_,_,_,_,_,_,_,_,_,_,_,_,_,_,_,_,_,_,rfl,⟨(fun h=>J.f0 (un h)),(fun h=>J.f1 (un h)),(fun h=>J.f2 (un h)),(fun h=>J.f3 (un h)),(fun h=>J.f4 (un h)),(fun h=>J.f5 (un h)),(fun h=>J.f6 (un h)),(fun _=>rfl),(fun h=>absurd (((hcl 8 7 (by kernel_rfl) hLi)).symm.trans (un h)) (by simp)),(fun h=>J.f9 (un h)),(fun h=>absurd (((hcl 10 8 (by kernel_rfl) (hcl 8 7 (by kernel_rfl) hLi))).symm.trans (un h)) (by simp)),(fun h=>absurd (((hcl 11 10 (by kernel_rfl) (hcl 10 8 (by kernel_rfl) (hcl 8 7 (by kernel_rfl) hLi)))).symm.trans (un h)) (by simp)),(fun h=>absurd (((hcl 12 11 (by kernel_rfl) (hcl 11 10 (by kernel_rfl) (hcl 10 8 (by kernel_rfl) (hcl 8 7 (by kernel_rfl) hLi))))).symm.trans (un h)) (by simp)),(fun h=>absurd (((hcl 13 12 (by kernel_rfl) (hcl 12 11 (by kernel_rfl) (hcl 11 10 (by kernel_rfl) (hcl 10 8 (by kernel_rfl) (hcl 8 7 (by kernel_rfl) hLi)))))).symm.trans (un h)) (by simp)),(fun h=>absurd (((hcl 14 13 (by kernel_rfl) (hcl 13 12 (by kernel_rfl) (hcl 12 11 (by kernel_rfl) (hcl 11 10 (by kernel_rfl) (hcl 10 8 (by kernel_rfl) (hcl 8 7 (by kernel_rfl) hLi))))))).symm.trans (un h)) (by simp)),(fun h=>absurd (((hcl 15 13 (by kernel_rfl) (hcl 13 12 (by kernel_rfl) (hcl 12 11 (by kernel_rfl) (hcl 11 10 (by kernel_rfl) (hcl 10 8 (by kernel_rfl) (hcl 8 7 (by kernel_rfl) hLi))))))).symm.trans (un h)) (by simp)),(fun h h2=>(J.f16 (un h) (un h2))),(fun h=>absurd (((hcl 17 14 (by kernel_rfl) (hcl 14 13 (by kernel_rfl) (hcl 13 12 (by kernel_rfl) (hcl 12 11 (by kernel_rfl) (hcl 11 10 (by kernel_rfl) (hcl 10 8 (by kernel_rfl) (hcl 8 7 (by kernel_rfl) hLi)))))))).symm.trans (un h)) (by simp)),(fun h=>absurd (((hcl 18 15 (by kernel_rfl) (hcl 15 13 (by kernel_rfl) (hcl 13 12 (by kernel_rfl) (hcl 12 11 (by kernel_rfl) (hcl 11 10 (by kernel_rfl) (hcl 10 8 (by kernel_rfl) (hcl 8 7 (by kernel_rfl) hLi)))))))).symm.trans (un h)) (by simp)),(fun _=>hB),J.bb⟩⟩
    ·skip
     have hN:=(hcl 17 14 (by kernel_rfl) (hcl 14 13 (by kernel_rfl) (hcl 13 12 (by kernel_rfl) (hcl 12 11 (by kernel_rfl) (hcl 11 10 (by kernel_rfl) (hcl 10 8 (by kernel_rfl) hLi))))))
     have hB:=J.b hN
     obtain rfl:=J.f7 (haft ⟨7,.data⟩ (by simp) rfl)
     have q0:=(hB.cell (p:=⟨bq,oq+r * 2,none⟩) hlq).trans HZ0.out
     go_simp
     exact hK _ _ ⟨_,_,_,_,_,_,_,_,_,_,_,_,_,_,_,_,_,_,rfl,⟨(fun h=>J.f0 (un h)),(fun h=>J.f1 (un h)),(fun h=>J.f2 (un h)),(fun h=>J.f3 (un h)),(fun h=>J.f4 (un h)),(fun h=>J.f5 (un h)),(fun h=>J.f6 (un h)),(fun h=>J.f7 (un h)),(fun _=>rfl),(fun h=>J.f9 (un h)),(fun h=>absurd (((hcl 10 8 (by kernel_rfl) hLi)).symm.trans (un h)) (by simp)),(fun h=>absurd (((hcl 11 10 (by kernel_rfl) (hcl 10 8 (by kernel_rfl) hLi))).symm.trans (un h)) (by simp)),(fun h=>absurd (((hcl 12 11 (by kernel_rfl) (hcl 11 10 (by kernel_rfl) (hcl 10 8 (by kernel_rfl) hLi)))).symm.trans (un h)) (by simp)),(fun h=>absurd (((hcl 13 12 (by kernel_rfl) (hcl 12 11 (by kernel_rfl) (hcl 11 10 (by kernel_rfl) (hcl 10 8 (by kernel_rfl) hLi))))).symm.trans (un h)) (by simp)),(fun h=>absurd (((hcl 14 13 (by kernel_rfl) (hcl 13 12 (by kernel_rfl) (hcl 12 11 (by kernel_rfl) (hcl 11 10 (by kernel_rfl) (hcl 10 8 (by kernel_rfl) hLi)))))).symm.trans (un h)) (by simp)),(fun h=>absurd (((hcl 15 13 (by kernel_rfl) (hcl 13 12 (by kernel_rfl) (hcl 12 11 (by kernel_rfl) (hcl 11 10 (by kernel_rfl) (hcl 10 8 (by kernel_rfl) hLi)))))).symm.trans (un h)) (by simp)),(fun h h2=>(J.f16 (un h) (un h2))),(fun h=>absurd (((hcl 17 14 (by kernel_rfl) (hcl 14 13 (by kernel_rfl) (hcl 13 12 (by kernel_rfl) (hcl 12 11 (by kernel_rfl) (hcl 11 10 (by kernel_rfl) (hcl 10 8 (by kernel_rfl) hLi))))))).symm.trans (un h)) (by simp)),(fun h=>absurd (((hcl 18 15 (by kernel_rfl) (hcl 15 13 (by kernel_rfl) (hcl 13 12 (by kernel_rfl) (hcl 12 11 (by kernel_rfl) (hcl 11 10 (by kernel_rfl) (hcl 10 8 (by kernel_rfl) hLi))))))).symm.trans (un h)) (by simp)),(fun _=>hB),J.bb⟩⟩
    ·skip
     have hN:=(hcl 17 14 (by kernel_rfl) (hcl 14 13 (by kernel_rfl) (hcl 13 12 (by kernel_rfl) (hcl 12 11 (by kernel_rfl) (hcl 11 10 (by kernel_rfl) (hcl 10 9 (by kernel_rfl) hLi))))))
     have hB:=J.b hN
     go_simp
     exact hK _ _ ⟨_,_,_,_,_,_,_,_,_,_,_,_,_,_,_,_,_,_,rfl,⟨(fun h=>J.f0 (un h)),(fun h=>J.f1 (un h)),(fun h=>J.f2 (un h)),(fun h=>J.f3 (un h)),(fun h=>J.f4 (un h)),(fun h=>J.f5 (un h)),(fun h=>J.f6 (un h)),(fun h=>J.f7 (un h)),(fun h=>J.f8 (un h)),(fun _=>rfl),(fun h=>absurd (((hcl 10 9 (by kernel_rfl) hLi)).symm.trans (un h)) (by simp)),(fun h=>absurd (((hcl 11 10 (by kernel_rfl) (hcl 10 9 (by kernel_rfl) hLi))).symm.trans (un h)) (by simp)),(fun h=>absurd (((hcl 12 11 (by kernel_rfl) (hcl 11 10 (by kernel_rfl) (hcl 10 9 (by kernel_rfl) hLi)))).symm.trans (un h)) (by simp)),(fun h=>absurd (((hcl 13 12 (by kernel_rfl) (hcl 12 11 (by kernel_rfl) (hcl 11 10 (by kernel_rfl) (hcl 10 9 (by kernel_rfl) hLi))))).symm.trans (un h)) (by simp)),(fun h=>absurd (((hcl 14 13 (by kernel_rfl) (hcl 13 12 (by kernel_rfl) (hcl 12 11 (by kernel_rfl) (hcl 11 10 (by kernel_rfl) (hcl 10 9 (by kernel_rfl) hLi)))))).symm.trans (un h)) (by simp)),(fun h=>absurd (((hcl 15 13 (by kernel_rfl) (hcl 13 12 (by kernel_rfl) (hcl 12 11 (by kernel_rfl) (hcl 11 10 (by kernel_rfl) (hcl 10 9 (by kernel_rfl) hLi)))))).symm.trans (un h)) (by simp)),(fun h h2=>(J.f16 (un h) (un h2))),(fun h=>absurd (((hcl 17 14 (by kernel_rfl) (hcl 14 13 (by kernel_rfl) (hcl 13 12 (by kernel_rfl) (hcl 12 11 (by kernel_rfl) (hcl 11 10 (by kernel_rfl) (hcl 10 9 (by kernel_rfl) hLi))))))).symm.trans (un h)) (by simp)),(fun h=>absurd (((hcl 18 15 (by kernel_rfl) (hcl 15 13 (by kernel_rfl) (hcl 13 12 (by kernel_rfl) (hcl 12 11 (by kernel_rfl) (hcl 11 10 (by kernel_rfl) (hcl 10 9 (by kernel_rfl) hLi))))))).symm.trans (un h)) (by simp)),(fun _=>hB),J.bb⟩⟩
    ·skip
     have hN:=(hcl 17 14 (by kernel_rfl) (hcl 14 13 (by kernel_rfl) (hcl 13 12 (by kernel_rfl) (hcl 12 11 (by kernel_rfl) (hcl 11 10 (by kernel_rfl) hLi)))))
     have hB:=J.b hN
     obtain rfl:=J.f8 (haft ⟨8,.data⟩ (by simp) rfl)
     obtain rfl:=J.f9 (haft ⟨9,.data⟩ (by simp) rfl)
     go_simp
     exact hK _ _ ⟨_,_,_,_,_,_,_,_,_,_,_,_,_,_,_,_,_,_,rfl,⟨(fun h=>J.f0 (un h)),(fun h=>J.f1 (un h)),(fun h=>J.f2 (un h)),(fun h=>J.f3 (un h)),(fun h=>J.f4 (un h)),(fun h=>J.f5 (un h)),(fun h=>J.f6 (un h)),(fun h=>J.f7 (un h)),(fun h=>J.f8 (un h)),(fun h=>J.f9 (un h)),(fun _=>rfl),(fun h=>absurd (((hcl 11 10 (by kernel_rfl) hLi)).symm.trans (un h)) (by simp)),(fun h=>absurd (((hcl 12 11 (by kernel_rfl) (hcl 11 10 (by kernel_rfl) hLi))).symm.trans (un h)) (by simp)),(fun h=>absurd (((hcl 13 12 (by kernel_rfl) (hcl 12 11 (by kernel_rfl) (hcl 11 10 (by kernel_rfl) hLi)))).symm.trans (un h)) (by simp)),(fun h=>absurd (((hcl 14 13 (by kernel_rfl) (hcl 13 12 (by kernel_rfl) (hcl 12 11 (by kernel_rfl) (hcl 11 10 (by kernel_rfl) hLi))))).symm.trans (un h)) (by simp)),(fun h=>absurd (((hcl 15 13 (by kernel_rfl) (hcl 13 12 (by kernel_rfl) (hcl 12 11 (by kernel_rfl) (hcl 11 10 (by kernel_rfl) hLi))))).symm.trans (un h)) (by simp)),(fun h h2=>(J.f16 (un h) (un h2))),(fun h=>absurd (((hcl 17 14 (by kernel_rfl) (hcl 14 13 (by kernel_rfl) (hcl 13 12 (by kernel_rfl) (hcl 12 11 (by kernel_rfl) (hcl 11 10 (by kernel_rfl) hLi)))))).symm.trans (un h)) (by simp)),(fun h=>absurd (((hcl 18 15 (by kernel_rfl) (hcl 15 13 (by kernel_rfl) (hcl 13 12 (by kernel_rfl) (hcl 12 11 (by kernel_rfl) (hcl 11 10 (by kernel_rfl) hLi)))))).symm.trans (un h)) (by simp)),(fun _=>hB),J.bb⟩⟩
    ·skip
     have hN:=(hcl 17 14 (by kernel_rfl) (hcl 14 13 (by kernel_rfl) (hcl 13 12 (by kernel_rfl) (hcl 12 11 (by kernel_rfl) hLi))))
     have hB:=J.b hN
     obtain rfl:=J.f10 (haft ⟨10,.data⟩ (by simp) rfl)
     have q0:=(hB.cell (p:=⟨bh,oh+a * 11,none⟩) hlh).trans HY.out.1
     have q1:=(hB.cell (p:=⟨bh,oh+a * 11+1,none⟩) hlh).trans HY.out.2.1
     have q2:=(hB.cell (p:=⟨bh,oh+a * 11+2,none⟩) hlh).trans HY.out.2.2.1
     have q3:=(hB.cell (p:=⟨bh,oh+a * 11+3,none⟩) hlh).trans HY.out.2.2.2.1
     have q4:=(hB.cell (p:=⟨bh,oh+a * 11+4,none⟩) hlh).trans HY.out.2.2.2.2.1
     have q5:=(hB.cell (p:=⟨bh,oh+a * 11+5,none⟩) hlh).trans HY.out.2.2.2.2.2.1
     have q6:=(hB.cell (p:=⟨bh,oh+a * 11+6,none⟩) hlh).trans HY.out.2.2.2.2.2.2.1
     have q7:=(hB.cell (p:=⟨bh,oh+a * 11+7,none⟩) hlh).trans HY.out.2.2.2.2.2.2.2.1
     have q8:=(hB.cell (p:=⟨bh,oh+a * 11+8,none⟩) hlh).trans HY.out.2.2.2.2.2.2.2.2.1
     have q9:=(hB.cell (p:=⟨bh,oh+a * 11+9,none⟩) hlh).trans HY.out.2.2.2.2.2.2.2.2.2.1
     have q10:=(hB.cell (p:=⟨bh,oh+a * 11+10,none⟩) hlh).trans HY.out.2.2.2.2.2.2.2.2.2.2
     go_simp
     exact hK _ _ ⟨_,_,_,_,_,_,_,_,_,_,_,_,_,_,_,_,_,_,rfl,⟨(fun h=>J.f0 (un h)),(fun h=>J.f1 (un h)),(fun h=>J.f2 (un h)),(fun h=>J.f3 (un h)),(fun h=>J.f4 (un h)),(fun h=>J.f5 (un h)),(fun h=>J.f6 (un h)),(fun h=>J.f7 (un h)),(fun h=>J.f8 (un h)),(fun h=>J.f9 (un h)),(fun h=>J.f10 (un h)),(fun _=>rfl),(fun h=>absurd (((hcl 12 11 (by kernel_rfl) hLi)).symm.trans (un h)) (by simp)),(fun h=>absurd (((hcl 13 12 (by kernel_rfl) (hcl 12 11 (by kernel_rfl) hLi))).symm.trans (un h)) (by simp)),(fun h=>absurd (((hcl 14 13 (by kernel_rfl) (hcl 13 12 (by kernel_rfl) (hcl 12 11 (by kernel_rfl) hLi)))).symm.trans (un h)) (by simp)),(fun h=>absurd (((hcl 15 13 (by kernel_rfl) (hcl 13 12 (by kernel_rfl) (hcl 12 11 (by kernel_rfl) hLi)))).symm.trans (un h)) (by simp)),(fun h h2=>(J.f16 (un h) (un h2))),(fun h=>absurd (((hcl 17 14 (by kernel_rfl) (hcl 14 13 (by kernel_rfl) (hcl 13 12 (by kernel_rfl) (hcl 12 11 (by kernel_rfl) hLi))))).symm.trans (un h)) (by simp)),(fun h=>absurd (((hcl 18 15 (by kernel_rfl) (hcl 15 13 (by kernel_rfl) (hcl 13 12 (by kernel_rfl) (hcl 12 11 (by kernel_rfl) hLi))))).symm.trans (un h)) (by simp)),(fun _=>hB),J.bb⟩⟩
    ·skip
     have hN:=(hcl 17 14 (by kernel_rfl) (hcl 14 13 (by kernel_rfl) (hcl 13 12 (by kernel_rfl) hLi)))
     have hB:=J.b hN
     obtain rfl:=J.f0 (haft ⟨0,.data⟩ (by simp) rfl)
     obtain rfl:=J.f1 (haft ⟨1,.data⟩ (by simp) rfl)
     obtain rfl:=J.f2 (haft ⟨2,.data⟩ (by simp) rfl)
     obtain rfl:=J.f11 (haft ⟨11,.data⟩ (by simp) rfl)
     go_simp
     go_wp2_with (go_at_call 14;refine (KP.out W hB).mono ?_;rintro e W2 ⟨p3,q3,r3,s3,rfl,hO,hb⟩)
     exact ⟨_,_,_,_,_,_,_,_,_,_,_,_,_,_,_,_,_,_,rfl,⟨(fun h=>J.f0 (un h)),(fun h=>J.f1 (un h)),(fun h=>J.f2 (un h)),(fun h=>J.f3 (un h)),(fun h=>J.f4 (un h)),(fun h=>J.f5 (un h)),(fun h=>J.f6 (un h)),(fun h=>J.f7 (un h)),(fun h=>J.f8 (un h)),(fun h=>J.f9 (un h)),(fun h=>J.f10 (un h)),(fun h=>J.f11 (un h)),(fun _=>⟨p3,q3,r3,s3,rfl,hO⟩),(fun h=>absurd (((hcl 13 12 (by kernel_rfl) hLi)).symm.trans (un h)) (by simp)),(fun h=>absurd (((hcl 14 13 (by kernel_rfl) (hcl 13 12 (by kernel_rfl) hLi))).symm.trans (un h)) (by simp)),(fun h=>absurd (((hcl 15 13 (by kernel_rfl) (hcl 13 12 (by kernel_rfl) hLi))).symm.trans (un h)) (by simp)),(fun h h2=>((J.f16 (un h) (un h2))).elim fun b h=>⟨b,h.1,h.2.1,box_kept h.2.2 hb⟩),(fun h=>absurd (((hcl 17 14 (by kernel_rfl) (hcl 14 13 (by kernel_rfl) (hcl 13 12 (by kernel_rfl) hLi)))).symm.trans (un h)) (by simp)),(fun h=>absurd (((hcl 18 15 (by kernel_rfl) (hcl 15 13 (by kernel_rfl) (hcl 13 12 (by kernel_rfl) hLi)))).symm.trans (un h)) (by simp)),(fun _=>k_trans hB hb),k_trans J.bb hb⟩⟩
    ·skip
     have hN:=(hcl 17 14 (by kernel_rfl) (hcl 14 13 (by kernel_rfl) hLi))
     have hB:=J.b hN
     go_simp
     exact hK _ _ ⟨_,_,_,_,_,_,_,_,_,_,_,_,_,_,_,_,_,_,rfl,⟨(fun h=>J.f0 (un h)),(fun h=>J.f1 (un h)),(fun h=>J.f2 (un h)),(fun h=>J.f3 (un h)),(fun h=>J.f4 (un h)),(fun h=>J.f5 (un h)),(fun h=>J.f6 (un h)),(fun h=>J.f7 (un h)),(fun h=>J.f8 (un h)),(fun h=>J.f9 (un h)),(fun h=>J.f10 (un h)),(fun h=>J.f11 (un h)),(fun h=>(J.f12 (un h))),(fun _=>rfl),(fun h=>absurd (((hcl 14 13 (by kernel_rfl) hLi)).symm.trans (un h)) (by simp)),(fun h=>absurd (((hcl 15 13 (by kernel_rfl) hLi)).symm.trans (un h)) (by simp)),(fun h h2=>(J.f16 (un h) (un h2))),(fun h=>absurd (((hcl 17 14 (by kernel_rfl) (hcl 14 13 (by kernel_rfl) hLi))).symm.trans (un h)) (by simp)),(fun h=>absurd (((hcl 18 15 (by kernel_rfl) (hcl 15 13 (by kernel_rfl) hLi))).symm.trans (un h)) (by simp)),(fun _=>hB),J.bb⟩⟩
    ·skip
     have hN:=(hcl 17 14 (by kernel_rfl) hLi)
     have hB:=J.b hN
     have h12:L 12=true:=eq_true_of_ne_false (fun h3=>by have h4:=hcl 13 12 (by kernel_rfl) h3;rw [(haft ⟨13,.data⟩ (by simp) rfl)] at h4;cases h4)
     obtain ⟨p3,q3,r3,s3,e3,_⟩:=J.f12 h12
     obtain rfl:=J.f13 (haft ⟨13,.data⟩ (by simp) rfl)
     subst e3
     go_simp
     exact hK _ _ ⟨_,_,_,_,_,_,_,_,_,_,_,_,_,_,_,_,_,_,rfl,⟨(fun h=>J.f0 (un h)),(fun h=>J.f1 (un h)),(fun h=>J.f2 (un h)),(fun h=>J.f3 (un h)),(fun h=>J.f4 (un h)),(fun h=>J.f5 (un h)),(fun h=>J.f6 (un h)),(fun h=>J.f7 (un h)),(fun h=>J.f8 (un h)),(fun h=>J.f9 (un h)),(fun h=>J.f10 (un h)),(fun h=>J.f11 (un h)),(fun h=>(J.f12 (un h))),(fun h=>J.f13 (un h)),(fun _=>⟨p3,q3,r3,s3,rfl,rfl⟩),(fun h=>J.f15 (un h)),(fun h h2=>(J.f16 (un h) (un h2))),(fun h=>absurd (((hcl 17 14 (by kernel_rfl) hLi)).symm.trans (un h)) (by simp)),(fun h=>J.f18 (un h)),(fun _=>hB),J.bb⟩⟩
    ·skip
     have h12:L 12=true:=eq_true_of_ne_false (fun h3=>by have h4:=hcl 13 12 (by kernel_rfl) h3;rw [(haft ⟨13,.data⟩ (by simp) rfl)] at h4;cases h4)
     obtain ⟨p3,q3,r3,s3,e3,_⟩:=J.f12 h12
     obtain rfl:=J.f13 (haft ⟨13,.data⟩ (by simp) rfl)
     subst e3
     go_simp
     exact hK _ _ ⟨_,_,_,_,_,_,_,_,_,_,_,_,_,_,_,_,_,_,rfl,⟨(fun h=>J.f0 (un h)),(fun h=>J.f1 (un h)),(fun h=>J.f2 (un h)),(fun h=>J.f3 (un h)),(fun h=>J.f4 (un h)),(fun h=>J.f5 (un h)),(fun h=>J.f6 (un h)),(fun h=>J.f7 (un h)),(fun h=>J.f8 (un h)),(fun h=>J.f9 (un h)),(fun h=>J.f10 (un h)),(fun h=>J.f11 (un h)),(fun h=>(J.f12 (un h))),(fun h=>J.f13 (un h)),(fun h=>J.f14 (un h)),(fun _=>rfl),(fun h h2=>(J.f16 (un h) (un h2))),(fun h=>J.f17 (un h)),(fun h=>absurd (((hcl 18 15 (by kernel_rfl) hLi)).symm.trans (un h)) (by simp)),(fun h=>J.b (un h)),J.bb⟩⟩
    ·skip
     have hN:=(hcl 17 16 (by kernel_rfl) hLi)
     have hB:=J.b hN
     go_simp
     exact hK _ _ ⟨_,_,_,_,_,_,_,_,_,_,_,_,_,_,_,_,_,_,rfl,⟨(fun h=>J.f0 (un h)),(fun h=>J.f1 (un h)),(fun h=>J.f2 (un h)),(fun h=>J.f3 (un h)),(fun h=>J.f4 (un h)),(fun h=>J.f5 (un h)),(fun h=>J.f6 (un h)),(fun h=>J.f7 (un h)),(fun h=>J.f8 (un h)),(fun h=>J.f9 (un h)),(fun h=>J.f10 (un h)),(fun h=>J.f11 (un h)),(fun h=>((J.f12 (un h))).elim fun p ⟨q,r',s,e,h⟩=>⟨p,q,r',s,e,h.since (.of_below (k_alloc (Below.refl _ _) _))⟩),(fun h=>J.f13 (un h)),(fun h=>J.f14 (un h)),(fun h=>J.f15 (un h)),(fun _ _=>⟨_,rfl,hB.size,newestB _ _⟩),(fun h=>absurd (((hcl 17 16 (by kernel_rfl) hLi)).symm.trans (un h)) (by simp)),(fun h=>J.f18 (un h)),(fun _=>k_alloc hB _),k_alloc J.bb _⟩⟩
    ·skip
     have hN:=hLi
     have hB:=J.b hN
     obtain ⟨p3,q3,r3,s3,e3,rfl⟩:=J.f14 (haft ⟨14,.data⟩ (by simp) rfl)
     subst e3
     obtain ⟨b,rfl,hbw,hbk⟩:=J.f16 (haft ⟨16,.data⟩ (by simp) rfl) hLi
     have hB:=J.b hLi
     obtain ⟨q0,q1',q2,q3',q4⟩:=fiveO hbk
     have fz:∀ o,W.frozen? ⟨b,o,none⟩=false:=fun o=>freeB hbk
     go_simp
     exact hK _ _ ⟨_,_,_,_,_,_,_,_,_,_,_,_,_,_,_,_,_,_,rfl,⟨(fun h=>J.f0 (un h)),(fun h=>J.f1 (un h)),(fun h=>J.f2 (un h)),(fun h=>J.f3 (un h)),(fun h=>J.f4 (un h)),(fun h=>J.f5 (un h)),(fun h=>J.f6 (un h)),(fun h=>J.f7 (un h)),(fun h=>J.f8 (un h)),(fun h=>J.f9 (un h)),(fun h=>J.f10 (un h)),(fun h=>J.f11 (un h)),(fun h=>((J.f12 (un h))).elim fun p ⟨q,r',s,e,h⟩=>⟨p,q,r',s,e,own_set5 h hbk _ _ _ _ _⟩),(fun h=>J.f13 (un h)),(fun h=>J.f14 (un h)),(fun h=>J.f15 (un h)),(fun _ h=>absurd (h.symm.trans upd_self) (by simp)),(fun _=>⟨b,p3,q3,r3,s3,rfl,hbw,rfl,set5_is hbk _ _ _ _ _⟩),(fun h=>J.f18 (un h)),(fun h=>absurd (h.symm.trans upd_self) (by simp)),k_set (k_set (k_set (k_set (k_set J.bb hbw _) hbw _) hbw _) hbw _) hbw _⟩⟩
    ·skip
     obtain rfl:=J.f15 (haft ⟨15,.data⟩ (by simp) rfl)
     go_simp
     exact hK _ _ ⟨_,_,_,_,_,_,_,_,_,_,_,_,_,_,_,_,_,_,rfl,⟨(fun h=>J.f0 (un h)),(fun h=>J.f1 (un h)),(fun h=>J.f2 (un h)),(fun h=>J.f3 (un h)),(fun h=>J.f4 (un h)),(fun h=>J.f5 (un h)),(fun h=>J.f6 (un h)),(fun h=>J.f7 (un h)),(fun h=>J.f8 (un h)),(fun h=>J.f9 (un h)),(fun h=>J.f10 (un h)),(fun h=>J.f11 (un h)),(fun h=>(J.f12 (un h))),(fun h=>J.f13 (un h)),(fun h=>J.f14 (un h)),(fun h=>J.f15 (un h)),(fun h h2=>(J.f16 (un h) (un h2))),(fun h=>J.f17 (un h)),(fun _=>rfl),(fun h=>J.b (un h)),J.bb⟩⟩

theorem lawET (a:Option Addr) (len cap:Nat) (w:World) (h:IsCode w a len cap) :
  Calls Try.prog 5 #[.slice a len cap] w fun e w'=>e=.returned (.bool true)∧Below w.heap.size w w':=by
 by_cases hl:len≤1048576
 ·exact lawET_walk a len cap hl w h
 ·have hl':(1048576:Int) < (len:Int):=by omega
  clear h
  go_enter Try.func5,Try.ntmps5
  go_wp2
  go_ret
  exact ⟨rfl,Below.refl _ _⟩
end Go.Proofs.Ytggmjiddadjilaj
