/-
  PROVED HERE: the program's WidTable at a drawn table; nothing that was in memory is turned. Also: 3 more texts of the same proof.
-/
import Derived.Test.YtojogjlblgcioanGreatC39
import Derived.Test.YtojogjlblgcioanGreatC25
import Derived.Test.YtojogjlblgcioanGreatC34
import Derived.Test.YtojogjlblgcioanGreatC13
import Derived.Test.YtojogjlblgcioanGreatC32
import Derived.Test.YtojogjlblgcioanGreatC26
import Derived.Test.YtojogjlblgcioanGreatC31
import Derived.Test.YtojogjlblgcioanGreatC35
import Derived.Test.YtojogjlblgcioanGreatC12
import Derived.Deep.RegionWith
import Derived.Deep.DeepCutAuto
import Derived.Deep.QuietTactic
import Derived.BigQuiet
namespace Go.Proofs.YtojogjlblgcioanGreat
open Go.RowKit
set_option maxRecDepth 100000 in
set_option maxHeartbeats 2000000 in
theorem implWidTable (ac ar:Option Addr) (cc cr:Nat) (t:T) (hD:Drawn t) (width:Int) (w:World) {z:Nat} (hc:ColsAt w z (.slice ac t.cols.length cc) t.cols) (hr:RowsAt w z (.slice ar t.rows.length cr) t.rows) :
  Calls Tryz.prog 8 #[.agg #[.slice ac t.cols.length cc,.int .i64 t.head,.int .i64 t.foot,.slice ar t.rows.length cr,.int .i64 t.gap],.int .i64 width] w fun e w'=>e=.returned (.int .i64 (acrV (widT t width) t.gap))∧Below w.heap.size w w':=by
 obtain ⟨W0,hW0⟩:∃ W0,w.alloc (.cells #[.slice ac t.cols.length cc,.int .i64 t.head,.int .i64 t.foot,.slice ar t.rows.length cr,.int .i64 t.gap] 26)=W0:=⟨_,rfl⟩
 have K0:Below w.heap.size w W0:=by rw [← hW0];exact k_alloc (Below.refl _ _) _
 have X0:W0.heap[w.heap.size]?=some (.cells #[.slice ac t.cols.length cc,.int .i64 t.head,.int .i64 t.foot,.slice ar t.rows.length cr,.int .i64 t.gap] 26):=by rw [← hW0];exact newestB _ _
 have HX:=Hd X0
 have HK0:=Hd K0
 have HMd:=Hd (And.intro ((hc.kept K0).kept (k_drew (Below.refl _ _))) ((hr.kept K0).kept (k_drew (Below.refl _ _))))
 have HKd:=Hd (k_drew (Below.refl W0.heap.size W0))
 obtain ⟨o0,o1,o2,o3,o4⟩:=fiveO X0
 have l0:=(bL X0)
 clear hc hr K0 X0
 go_enter Tryz.func8,Tryz.ntmps8
 go_upto_region 1 with fail
 clear hW0
 go_region_with (first
  | (go_at_call 10;refine (implWidCols ac ar cc cr t hD width _ HMd.out.1 HMd.out.2).mono ?_;rintro e w1 ⟨v1,rfl,hR,hb1⟩;obtain ⟨al,cl,rfl⟩:=hR.form;have HI:=Hd hR.at;have hb1':=k_trans HKd.out hb1;obtain ⟨q0,q1,q2,q3,q4⟩:=fiveO ((hb1'.block _ l0).trans HX.out);have HB1:=Hd (k_trans HK0.out hb1');clear hR hb1 hb1')
  | (go_at_call 37;refine (implacrossAll _ (widT t width) t.gap _ HI.out).mono ?_;rintro e w2 ⟨rfl,rfl⟩))
 all_goals
  go_wp2
  go_ret
  exact ⟨rfl,HB1.out⟩
end Go.Proofs.YtojogjlblgcioanGreat
namespace Go.Proofs.YtojogjlblgcioanGreat
open Go.RowKit Go.BigFrame
theorem take_nextI {l:List Int} {k:Nat} (h:k < l.length):l.take (k+1)=l.take k ++ [l.getD k 0]:=by
 rw [List.take_succ_eq_append_getElem h,show l.getD k 0=l[k] by simp [List.getD,h]]
structure AdJ (w:World) (va vb U:Value) (xs:List Int) (k x y:Int) (p1 p2:Addr) (L:Nat→Bool) (W:World) (v5 v14 v15 v16 v17 v18 v19 v20 v21 v22 v23 v24 v25:Value):Prop where
 f0:L 0=true→v14=U
 f1:L 1=true→v15=va
 f2:L 2=true→v16=.int .i64 k
 f3:L 3=true→v17=.pointer (some p1)
 f4:L 4=true→v18=.int .i64 x
 f5:L 5=true→v19=vb
 f6:L 6=true→v20=.int .i64 k
 f7:L 7=true→v21=.pointer (some p2)
 f8:L 8=true→v22=.int .i64 y
 f9:L 9=true→v23=.int .i64 (x+y)
 f10:L 10=true→∃ g,v24=.slice (some ⟨g,0,none⟩) 1 1∧(L 11=false→W.cell? ⟨g,0,none⟩=some (.int .i64 (x+y)))
 f12:L 12=true→v5=v25
 n12:L 12=false→v5=U
 bel:Below w.heap.size w W
 own:L 11=false→W.ownsRow w.heap.size 3 1 U xs.length (xs.map (Value.int .i64))
 ownA:L 11=true→W.ownsRow w.heap.size 3 1 v25 (xs ++ [x+y]).length ((xs ++ [x+y]).map (Value.int .i64))
set_option maxRecDepth 100000 in
set_option maxHeartbeats 1000000 in
theorem specl6Add (va vb:Value) (a b:List Int) (hl:b.length=a.length) (h88:a.length≤88) (ha:a.all wtB=true) (hb:b.all wtB=true) (w:World) (h1:IntsAt w va a) (h2:IntsAt w vb b) :
  Calls Tryz.prog 92 #[va,vb] w fun e w'=>∃ v,e=.returned v∧RowI w' w.heap.size w'.heap.size v (addL a b)∧Below w.heap.size w w':=by
 have hmx:Tryz.prog.follows .mixedOrders=true:=by kernel_rfl
 obtain ⟨i0,hi,hz0,hz1,hz2⟩:=info_parts infoIc
 obtain ⟨aa,ca,rfl,_⟩:=h1.form
 obtain ⟨ab,cb,rfl,_⟩:=h2.form
 rw [hl] at h2 ⊢
 have H1:=Hd h1
 have H2:=Hd h2
 have HL:=Hd hl
 have HLn:=Hd (addL_len hl)
 have HA:=Hd (fun i (hi:i < a.length)=>wt_get ha hi)
 have HB:=Hd (fun i (hi:i < a.length)=>wt_get hb (i:=i) (by omega))
 have HG:=Hd (fun i (hi:i < a.length)=>addL_get hl hi)
 have HR0:=Hd (row_lit w w.heap.size (Nat.le_refl _))
 have HK0:=Hd (k_alloc (Below.refl w.heap.size w) (.cells #[] 3))
 clear h1 h2 ha hb hl
 go_enter Tryz.func92,Tryz.ntmps92
 go_wp2_with fail
 go_loopw [5,6] (fun o i W=>∃ k:Nat,i=.int .i64 k∧k≤a.length∧Hid (W.ownsRow w.heap.size 3 1 o ((addL a b).take k).length (((addL a b).take k).map (Value.int .i64)))∧Hid (Below w.heap.size w W)) (fun _ i _=>a.length - (intOf i).toNat)
 case atStart=>exact ⟨0,rfl,Nat.zero_le _,by rw [List.take_zero];exact HR0.out.owns,HK0⟩
 case round =>
  clear HR0 HK0
  obtain ⟨k,rfl,hk,HO,HBl⟩:=hrel
  by_cases hlt:k < a.length
  case neg =>
   obtain rfl:k=a.length:=by omega
   have HR:=Hd (RowI.of_owns HO.out)
   rw [← HLn.out,List.take_length] at HR
   go_wp2
   go_ret
   exact ⟨_,rfl,HR.out,HBl.out⟩
  obtain ⟨b1,o1,c1,e1,hc11,hc12,hb1,hx1⟩:=H1.out.get hlt
  simp only [Value.slice.injEq,true_and] at e1
  obtain ⟨rfl,rfl⟩:=e1
  obtain ⟨b2,o2,c2,e2,hc21,hc22,hb2,hx2⟩:=H2.out.get (i:=k) (by rw [HL.out];exact hlt)
  rw [HL.out] at e2 hc21
  simp only [Value.slice.injEq,true_and] at e2
  obtain ⟨rfl,rfl⟩:=e2
  have hxa:=HA.out k hlt
  have hxb:=HB.out k hlt
  have hol:((addL a b).take k).length≤k:=by rw [List.length_take];omega
  have HT:Hid ((addL a b).take (k+1)=(addL a b).take k ++ [a.getD k 0+b.getD k 0]):=by rw [Hid,take_nextI (by rw [HLn.out];exact hlt),HG.out k hlt]
  generalize (addL a b).take k=xs at HO HT hol
  generalize a.getD k 0=x at hx1 hxa HT
  generalize b.getD k 0=y at hx2 hxb HT
  unfold maxLen at hc12 hc22
  go_upto_region 5 with fail
  refine wp_region_inv2 (fun L act W=>∃ v5 v14 v15 v16 v17 v18 v19 v20 v21 v22 v23 v24 v25:Value,act=⟨#[.slice (some ⟨b1,o1,none⟩) a.length ca,.slice (some ⟨b2,o2,none⟩) a.length cb,undef,undef,.slice none 0 0,v5,.int .i64 (k:Int),.slice (some ⟨w.heap.size,0,none⟩) 0 0,.int .i64 (k:Int),.slice (some ⟨b1,o1,none⟩) a.length ca,.int .i64 (a.length:Int),.bool true,u12,u13,v14,v15,v16,v17,v18,v19,v20,v21,v22,v23,v24,v25,undef],[]⟩∧AdJ w (.slice (some ⟨b1,o1,none⟩) a.length ca) (.slice (some ⟨b2,o2,none⟩) a.length cb) u5 xs (k:Int) x y ⟨b1,o1+k,none⟩ ⟨b2,o2+k,none⟩ L W v5 v14 v15 v16 v17 v18 v19 v20 v21 v22 v23 v24 v25) hmx (by kernel_rfl) ?hs ?hd ?h0
  case h0=>exact ⟨_,_,_,_,_,_,_,_,_,_,_,_,_,rfl,⟨(fun h=>by cases h),(fun h=>by cases h),(fun h=>by cases h),(fun h=>by cases h),(fun h=>by cases h),(fun h=>by cases h),(fun h=>by cases h),(fun h=>by cases h),(fun h=>by cases h),(fun h=>by cases h),(fun h=>by cases h),(fun h=>by cases h),fun _=>rfl,k_drew HBl.out,fun _=>(RowI.of_owns HO.out |>.kept (w':=wr.drew) (fun _ _ _ _=>rfl)).owns,(fun h=>by cases h)⟩⟩
  case hd =>
   intro L act W hJ hall
   obtain ⟨v5,v14,v15,v16,v17,v18,v19,v20,v21,v22,v23,v24,v25,ha,J⟩:=hJ
   subst ha
   obtain rfl:=J.f12 (hall 12 (by decide))
   have HO5:=Hd (J.ownA (hall 11 (by decide)))
   have HB5:=Hd J.bel
   obtain ⟨g',cap'',rfl⟩:=Joins.ownsRow_form HO5.out (by simp)
   clear J hall
   go_wp2
   go_roundw
   case rel=>exact ⟨k+1,by go_num,by omega,by rw [HT.out];exact HO5,HB5⟩
   case measure=>simp [intOf];omega
  case hs =>
   intro L act W i o hJ hcl ho hLi haft K hK
   obtain ⟨v5,v14,v15,v16,v17,v18,v19,v20,v21,v22,v23,v24,v25,ha,J⟩:=hJ
   skip
   subst ha
   have hi':i < 13:=by
    have:=(bL ho)
    simpa using this
   rcases (by omega:i=0∨i=1∨i=2∨i=3∨i=4∨i=5∨i=6∨i=7∨i=8∨i=9∨i=10∨i=11∨i=12) with rfl | rfl | rfl | rfl | rfl | rfl | rfl | rfl | rfl | rfl | rfl | rfl | rfl
   all_goals
    simp only [List.getElem?_toArray,List.getElem?_cons_zero,List.getElem?_cons_succ,Option.some.injEq] at ho
    subst ho
    clear hi'
   ·skip
    have hL12:L 12=false:=hcl 12 0 (by kernel_rfl) hLi
    obtain rfl:=J.n12 hL12
    go_simp
    exact hK _ _ ⟨_,_,_,_,_,_,_,_,_,_,_,_,_,rfl,⟨(fun _=>rfl),(uq J.f1),(uq J.f2),(uq J.f3),(uq J.f4),(uq J.f5),(uq J.f6),(uq J.f7),(uq J.f8),(uq J.f9),(ub J.f10),(uq J.f12),(uq J.n12),(J.bel),(uq J.own),(uq J.ownA)⟩⟩
   ·skip
    go_simp
    exact hK _ _ ⟨_,_,_,_,_,_,_,_,_,_,_,_,_,rfl,⟨(uq J.f0),(fun _=>rfl),(uq J.f2),(uq J.f3),(uq J.f4),(uq J.f5),(uq J.f6),(uq J.f7),(uq J.f8),(uq J.f9),(ub J.f10),(uq J.f12),(uq J.n12),(J.bel),(uq J.own),(uq J.ownA)⟩⟩
   ·skip
    go_simp
    exact hK _ _ ⟨_,_,_,_,_,_,_,_,_,_,_,_,_,rfl,⟨(uq J.f0),(uq J.f1),(fun _=>rfl),(uq J.f3),(uq J.f4),(uq J.f5),(uq J.f6),(uq J.f7),(uq J.f8),(uq J.f9),(ub J.f10),(uq J.f12),(uq J.n12),(J.bel),(uq J.own),(uq J.ownA)⟩⟩
   ·skip
    obtain rfl:=J.f1 (haft ⟨1,.data⟩ (by simp) rfl)
    obtain rfl:=J.f2 (haft ⟨2,.data⟩ (by simp) rfl)
    go_simp
    exact hK _ _ ⟨_,_,_,_,_,_,_,_,_,_,_,_,_,rfl,⟨(uq J.f0),(uq J.f1),(uq J.f2),(fun _=>rfl),(uq J.f4),(uq J.f5),(uq J.f6),(uq J.f7),(uq J.f8),(uq J.f9),(ub J.f10),(uq J.f12),(uq J.n12),(J.bel),(uq J.own),(uq J.ownA)⟩⟩
   ·skip
    obtain rfl:=J.f3 (haft ⟨3,.data⟩ (by simp) rfl)
    have q1:=(J.bel.cell (p:=⟨b1,o1+k,none⟩) hb1).trans hx1
    go_simp
    exact hK _ _ ⟨_,_,_,_,_,_,_,_,_,_,_,_,_,rfl,⟨(uq J.f0),(uq J.f1),(uq J.f2),(uq J.f3),(fun _=>rfl),(uq J.f5),(uq J.f6),(uq J.f7),(uq J.f8),(uq J.f9),(ub J.f10),(uq J.f12),(uq J.n12),(J.bel),(uq J.own),(uq J.ownA)⟩⟩
   ·skip
    go_simp
    exact hK _ _ ⟨_,_,_,_,_,_,_,_,_,_,_,_,_,rfl,⟨(uq J.f0),(uq J.f1),(uq J.f2),(uq J.f3),(uq J.f4),(fun _=>rfl),(uq J.f6),(uq J.f7),(uq J.f8),(uq J.f9),(ub J.f10),(uq J.f12),(uq J.n12),(J.bel),(uq J.own),(uq J.ownA)⟩⟩
   ·skip
    go_simp
    exact hK _ _ ⟨_,_,_,_,_,_,_,_,_,_,_,_,_,rfl,⟨(uq J.f0),(uq J.f1),(uq J.f2),(uq J.f3),(uq J.f4),(uq J.f5),(fun _=>rfl),(uq J.f7),(uq J.f8),(uq J.f9),(ub J.f10),(uq J.f12),(uq J.n12),(J.bel),(uq J.own),(uq J.ownA)⟩⟩
   ·skip
    obtain rfl:=J.f5 (haft ⟨5,.data⟩ (by simp) rfl)
    obtain rfl:=J.f6 (haft ⟨6,.data⟩ (by simp) rfl)
    go_simp
    exact hK _ _ ⟨_,_,_,_,_,_,_,_,_,_,_,_,_,rfl,⟨(uq J.f0),(uq J.f1),(uq J.f2),(uq J.f3),(uq J.f4),(uq J.f5),(uq J.f6),(fun _=>rfl),(uq J.f8),(uq J.f9),(ub J.f10),(uq J.f12),(uq J.n12),(J.bel),(uq J.own),(uq J.ownA)⟩⟩
   ·skip
    obtain rfl:=J.f7 (haft ⟨7,.data⟩ (by simp) rfl)
    have q1:=(J.bel.cell (p:=⟨b2,o2+k,none⟩) hb2).trans hx2
    go_simp
    exact hK _ _ ⟨_,_,_,_,_,_,_,_,_,_,_,_,_,rfl,⟨(uq J.f0),(uq J.f1),(uq J.f2),(uq J.f3),(uq J.f4),(uq J.f5),(uq J.f6),(uq J.f7),(fun _=>rfl),(uq J.f9),(ub J.f10),(uq J.f12),(uq J.n12),(J.bel),(uq J.own),(uq J.ownA)⟩⟩
   ·skip
    obtain rfl:=J.f4 (haft ⟨4,.data⟩ (by simp) rfl)
    obtain rfl:=J.f8 (haft ⟨8,.data⟩ (by simp) rfl)
    go_simp
    exact hK _ _ ⟨_,_,_,_,_,_,_,_,_,_,_,_,_,rfl,⟨(uq J.f0),(uq J.f1),(uq J.f2),(uq J.f3),(uq J.f4),(uq J.f5),(uq J.f6),(uq J.f7),(uq J.f8),(fun _=>by rw [kind_small (by omega)]),(ub J.f10),(uq J.f12),(uq J.n12),(J.bel),(uq J.own),(uq J.ownA)⟩⟩
   ·skip
    obtain rfl:=J.f9 (haft ⟨9,.data⟩ (by simp) rfl)
    go_simp
    exact hK _ _ ⟨_,_,_,_,_,_,_,_,_,_,_,_,_,rfl,⟨(uq J.f0),(uq J.f1),(uq J.f2),(uq J.f3),(uq J.f4),(uq J.f5),(uq J.f6),(uq J.f7),(uq J.f8),(uq J.f9),(fun _=>⟨_,rfl,fun _=>by simp⟩),(uq J.f12),(uq J.n12),(k_alloc J.bel _),(fun h=>(J.own (un h)).alloc _),(fun h=>(J.ownA (un h)).alloc _)⟩⟩
   ·skip
    obtain rfl:=J.f0 (haft ⟨0,.data⟩ (by simp) rfl)
    obtain ⟨g,rfl,hg⟩:=J.f10 (haft ⟨10,.data⟩ (by simp) rfl)
    have hL12:L 12=false:=hcl 12 11 (by kernel_rfl) hLi
    have hO4:=J.own hLi
    rw [if_pos (by rfl)]
    refine wp_append_own _ (.tmp 14) (.tmp 24) 30 rfl w.heap.size 3 i0 (.int .i64 0) 1 8 Tryz.underlying30 hi hz0 hz1 hz2 rfl (by decide) _ _ _ rfl hO4 ⟨g,0,none⟩ 1 1 [.int .i64 (x+y)] rfl rfl ?c1 ?c2 ?c3 ?c4 ?c5 ?_
    case c1 =>
     intro i u hi
     match i,hi with
     | 0,hi=>simp at hi;subst hi;simpa [Addr.add] using hg hLi
    case c2=>intro u hu;simp at hu;subst hu;rfl
    case c3=>unfold maxLen;omega
    case c4=>omega
    case c5=>exact J.bel.size
    intro v' w5 hown' hgrow' _
    have hB5:Below w.heap.size w w5:=J.bel.grown hgrow' J.bel.size (fun q hq=>(hO4.lt q hq).1)
    exact hK _ _ ⟨_,_,_,_,_,_,_,_,_,_,_,_,_,rfl,⟨(uq J.f0),(uq J.f1),(uq J.f2),(uq J.f3),(uq J.f4),(uq J.f5),(uq J.f6),(uq J.f7),(uq J.f8),(uq J.f9),(fun h=>⟨_,rfl,fun h2=>by rw [upd_self] at h2;cases h2⟩),(uf hL12),(uq J.n12),(hB5),(fun h=>by rw [upd_self] at h;cases h),(fun _=>by rw [List.length_append,List.map_append];exact hown')⟩⟩
   ·skip
    go_simp
    exact hK _ _ ⟨_,_,_,_,_,_,_,_,_,_,_,_,_,rfl,⟨(uq J.f0),(uq J.f1),(uq J.f2),(uq J.f3),(uq J.f4),(uq J.f5),(uq J.f6),(uq J.f7),(uq J.f8),(uq J.f9),(ub J.f10),(fun _=>rfl),(fun h=>by rw [upd_self] at h;cases h),(J.bel),(uq J.own),(uq J.ownA)⟩⟩
set_option maxRecDepth 100000 in
set_option maxHeartbeats 1000000 in
theorem specl6Of (ac ar:Option Addr) (cc cr:Nat) (t:T) (q:Int) (C:Nat) (hC:C≤88) (w:World) {z:Nat} (hc:ColsAt w z (.slice ac t.cols.length cc) t.cols) :
  Calls Tryz.prog 93 #[.agg #[.slice ac t.cols.length cc,.int .i64 t.head,.int .i64 t.foot,.slice ar t.rows.length cr,.int .i64 t.gap],.int .i64 q,.int .i64 (C:Int)] w fun e w'=>∃ v,e=.returned v∧RowI w' w.heap.size w'.heap.size v (oneL (kindP t q) C)∧Below w.heap.size w w':=by
 obtain ⟨i0,hi,hz0,hz1,hz2⟩:=info_parts infoIc
 have hf0:=field0
 have HC:=Hd hc
 have HLn:=Hd (oneL_len (kindP t q) C)
 have K1:=k_alloc (Below.refl w.heap.size w) (.cells #[.slice ac t.cols.length cc,.int .i64 t.head,.int .i64 t.foot,.slice ar t.rows.length cr,.int .i64 t.gap] 26)
 have X1:=newestB w (.cells #[.slice ac t.cols.length cc,.int .i64 t.head,.int .i64 t.foot,.slice ar t.rows.length cr,.int .i64 t.gap] 26)
 have hs1:(w.alloc (.cells #[.slice ac t.cols.length cc,.int .i64 t.head,.int .i64 t.foot,.slice ar t.rows.length cr,.int .i64 t.gap] 26)).heap.size=w.heap.size+1:=by simp
 have HR0:=Hd (row_lit (w.alloc (.cells #[.slice ac t.cols.length cc,.int .i64 t.head,.int .i64 t.foot,.slice ar t.rows.length cr,.int .i64 t.gap] 26)) (w.heap.size+1) (by omega))
 have HK0:=Hd (k_alloc K1 (.cells #[] 3))
 have HX0:=Hd ((Below.heap_alloc (w.alloc (.cells #[.slice ac t.cols.length cc,.int .i64 t.head,.int .i64 t.foot,.slice ar t.rows.length cr,.int .i64 t.gap] 26)) (.cells #[] 3) w.heap.size (by omega)).trans X1)
 rw [hs1] at HR0
 clear hc K1 X1
 go_enter Tryz.func93,Tryz.ntmps93
 go_wp2_with fail
 go_loopw [7,8] (fun o i W=>∃ k:Nat,i=.int .i64 k∧k≤C∧Hid (W.ownsRow (w.heap.size+1) 3 1 o ((oneL (kindP t q) C).take k).length (((oneL (kindP t q) C).take k).map (Value.int .i64)))∧Hid (Below w.heap.size w W)∧Hid (W.heap[w.heap.size]?=some (.cells #[.slice ac t.cols.length cc,.int .i64 t.head,.int .i64 t.foot,.slice ar t.rows.length cr,.int .i64 t.gap] 26))) (fun _ i _=>C - (intOf i).toNat)
 case atStart=>exact ⟨0,rfl,Nat.zero_le _,by rw [List.take_zero];exact HR0.out.owns,HK0,HX0⟩
 case round =>
  clear HR0 HK0 HX0
  obtain ⟨k,rfl,hk,HO,HB,HX⟩:=hrel
  by_cases hlt:k < C
  case neg =>
   obtain rfl:k=C:=by omega
   have HR:=Hd (RowI.of_owns HO.out)
   rw [show (oneL (kindP t q) k).take k=oneL (kindP t q) k by rw [List.take_of_length_le (by rw [HLn.out];exact Nat.le_refl _)]] at HR
   go_wp2
   go_ret
   exact ⟨_,rfl,HR.out.base (by omega) (Nat.le_refl _),HB.out⟩
  have hwz:w.heap.size < wr.heap.size:=(bL HX.out)
  have b0:wr.cell? ⟨w.heap.size,0,none⟩=some (.slice ac t.cols.length cc):=cellB HX.out
  have b1:wr.cell? ⟨w.heap.size,1,none⟩=some (.int .i64 t.head):=cellB HX.out
  have b2:wr.cell? ⟨w.heap.size,2,none⟩=some (.int .i64 t.foot):=cellB HX.out
  have b3:wr.cell? ⟨w.heap.size,3,none⟩=some (.slice ar t.rows.length cr):=cellB HX.out
  have b4:wr.cell? ⟨w.heap.size,4,none⟩=some (.int .i64 t.gap):=cellB HX.out
  have KS:=Hd (specl5Said ac ar cc cr t (k:Int) (by omega) wr (HC.out.kept HB.out))
  have hkq:=kind_eq t q k
  have hol:((oneL (kindP t q) C).take k).length≤k:=by rw [List.length_take];omega
  have HT:Hid ((oneL (kindP t q) C).take (k+1)=(oneL (kindP t q) C).take k ++ [if kindP t q k=true then (1:Int) else 0]):=by rw [Hid,take_nextI (by rw [HLn.out];exact hlt),oneL_get hlt]
  generalize sd t.cols k=p at KS hkq
  generalize (oneL (kindP t q) C).take k=xs at HO HT hol
  cases hp:kindP t q k with
  | false =>
   rw [hp] at hkq HT
   simp only [Bool.false_eq_true,if_false] at HT
   clear hp
   go_wp2_with fail
   refine KS.out.mono ?_
   rintro e w1 ⟨rfl,hb1⟩
   have HB1:=Hd (k_trans HB.out hb1)
   have HX1:=Hd ((hb1.block w.heap.size hwz).trans HX.out)
   have hO4:=(RowI.of_owns HO.out |>.kept (fun j h0 _ _=>hb1.block j h0)).owns
   have hsz:w.heap.size+1≤w1.heap.size:=by have:=hb1.size;omega
   clear hb1 b0 b1 b2 b3 b4 HO HB HX
   go_wp2_with (at_builtin;refine wpList_append_own _ rfl _ _ 30 rfl (w.heap.size+1) 3 i0 (.int .i64 0) 1 8 Tryz.underlying30 hi hz0 hz1 hz2 rfl (by decide) _ _ _ rfl (hO4.alloc _) ⟨w1.heap.size,0,none⟩ 1 1 [.int .i64 0] rfl rfl ?c1 ?c2 ?c3 ?c4 ?c5 ?_)
   case c1 =>
    intro i u hi
    match i,hi with
    | 0,hi=>simp at hi;subst hi;simp [Addr.add]
   case c2=>intro u hu;simp at hu;subst hu;rfl
   case c3=>unfold maxLen;omega
   case c4=>omega
   case c5=>simp;omega
   intro v' w5 hown' hgrow' _
   obtain ⟨hB5,hX5⟩:=app_keeps (Nat.le_succ _) hO4 HB1.out hgrow'
   have HB5:=Hd hB5
   have HX5:=Hd ((hX5 w.heap.size (Nat.lt_succ_self _) (by omega)).trans HX1.out)
   have HO5:Hid (w5.ownsRow (w.heap.size+1) 3 1 v' (xs ++ [0]).length ((xs ++ [0]).map (Value.int .i64))):=by rw [List.length_append,List.map_append];exact hown'
   obtain ⟨g',cap'',rfl⟩:=Joins.ownsRow_form hown' (by omega)
   clear hown' hgrow' hO4 hB5 hX5 HB1 HX1
   go_wp2
   go_roundw
   case rel=>exact ⟨k+1,by go_num,by omega,by rw [HT.out];exact HO5,HB5,HX5⟩
   case measure=>simp [intOf];omega
  | true =>
   rw [hp] at hkq HT
   simp only [if_true] at HT
   clear hp
   go_wp2_with fail
   refine KS.out.mono ?_
   rintro e w1 ⟨rfl,hb1⟩
   have HB1:=Hd (k_trans HB.out hb1)
   have HX1:=Hd ((hb1.block w.heap.size hwz).trans HX.out)
   have hO4:=(RowI.of_owns HO.out |>.kept (fun j h0 _ _=>hb1.block j h0)).owns
   have hsz:w.heap.size+1≤w1.heap.size:=by have:=hb1.size;omega
   clear hb1 b0 b1 b2 b3 b4 HO HB HX
   go_wp2_with (at_builtin;refine wpList_append_own _ rfl _ _ 30 rfl (w.heap.size+1) 3 i0 (.int .i64 0) 1 8 Tryz.underlying30 hi hz0 hz1 hz2 rfl (by decide) _ _ _ rfl (hO4.alloc _) ⟨w1.heap.size,0,none⟩ 1 1 [.int .i64 1] rfl rfl ?c1 ?c2 ?c3 ?c4 ?c5 ?_)
   case c1 =>
    intro i u hi
    match i,hi with
    | 0,hi=>simp at hi;subst hi;simp [Addr.add]
   case c2=>intro u hu;simp at hu;subst hu;rfl
   case c3=>unfold maxLen;omega
   case c4=>omega
   case c5=>simp;omega
   intro v' w5 hown' hgrow' _
   obtain ⟨hB5,hX5⟩:=app_keeps (Nat.le_succ _) hO4 HB1.out hgrow'
   have HB5:=Hd hB5
   have HX5:=Hd ((hX5 w.heap.size (Nat.lt_succ_self _) (by omega)).trans HX1.out)
   have HO5:Hid (w5.ownsRow (w.heap.size+1) 3 1 v' (xs ++ [1]).length ((xs ++ [1]).map (Value.int .i64))):=by rw [List.length_append,List.map_append];exact hown'
   obtain ⟨g',cap'',rfl⟩:=Joins.ownsRow_form hown' (by omega)
   clear hown' hgrow' hO4 hB5 hX5 HB1 HX1
   go_wp2
   go_roundw
   case rel=>exact ⟨k+1,by go_num,by omega,by rw [HT.out];exact HO5,HB5,HX5⟩
   case measure=>simp [intOf];omega
set_option maxRecDepth 100000 in
set_option maxHeartbeats 1000000 in
theorem specl6Wants2 (ac ar:Option Addr) (cc cr:Nat) (t:T) (width:Int) (hw:0≤width∧width≤300) (L:List Int) (C:Nat) (hC:C≤88) (hCt:C=colN t) (hLC:L.length=C) (hLs:L.all wtB=true) (ah aw:Option Addr) (ch cw:Nat) (w:World) {z:Nat} (hc:ColsAt w z (.slice ac t.cols.length cc) t.cols) (h1:IntsAt w (.slice ah C ch) L) :
  Calls Tryz.prog 91 #[.agg #[.slice ac t.cols.length cc,.int .i64 t.head,.int .i64 t.foot,.slice ar t.rows.length cr,.int .i64 t.gap],.int .i64 2,.slice ah C ch,.slice aw C cw,.int .i64 width] w fun e w'=>∃ v,e=.returned v∧RowI w' w.heap.size w'.heap.size v (want1 t width L)∧Below w.heap.size w w':=by
 have hmx:Tryz.prog.follows .mixedOrders=true:=by kernel_rfl
 obtain ⟨i0,hi,hz0,hz1,hz2⟩:=info_parts infoIc
 have HC:=Hd hc
 have H1:=Hd h1
 have HL:=Hd hLC
 have HLn:Hid ((want1 t width L).length=C):=by rw [Hid,want1_len t width L,hLC]
 have HG:=Hd (fun k (hk:k < C)=>want1_get (t:=t) (width:=width) (l:=L) (k:=k) (by omega))
 have HLg:=Hd (getD_small hLs)
 have HKd:=Hd (fun j (hj:j < C)=>sd_kind (t:=t) (k:=j) (by omega))
 clear hCt
 have K1:=k_alloc (Below.refl w.heap.size w) (.cells #[.slice ac t.cols.length cc,.int .i64 t.head,.int .i64 t.foot,.slice ar t.rows.length cr,.int .i64 t.gap] 26)
 have X1:=newestB w (.cells #[.slice ac t.cols.length cc,.int .i64 t.head,.int .i64 t.foot,.slice ar t.rows.length cr,.int .i64 t.gap] 26)
 have hs1:(w.alloc (.cells #[.slice ac t.cols.length cc,.int .i64 t.head,.int .i64 t.foot,.slice ar t.rows.length cr,.int .i64 t.gap] 26)).heap.size=w.heap.size+1:=by simp
 have HR0:=Hd (row_lit (w.alloc (.cells #[.slice ac t.cols.length cc,.int .i64 t.head,.int .i64 t.foot,.slice ar t.rows.length cr,.int .i64 t.gap] 26)) (w.heap.size+1) (by omega))
 have HK0:=Hd (k_alloc K1 (.cells #[] 3))
 have HX0:=Hd ((Below.heap_alloc (w.alloc (.cells #[.slice ac t.cols.length cc,.int .i64 t.head,.int .i64 t.foot,.slice ar t.rows.length cr,.int .i64 t.gap] 26)) (.cells #[] 3) w.heap.size (by omega)).trans X1)
 rw [hs1] at HR0
 clear hc K1 X1 h1 hLC hLs
 go_enter Tryz.func91,Tryz.ntmps91
 go_wp2_with fail
 go_loopw [11,12] (fun o i W=>∃ k:Nat,i=.int .i64 k∧k≤C∧Hid (W.ownsRow (w.heap.size+1) 3 1 o ((want1 t width L).take k).length (((want1 t width L).take k).map (Value.int .i64)))∧Hid (Below w.heap.size w W)∧Hid (W.heap[w.heap.size]?=some (.cells #[.slice ac t.cols.length cc,.int .i64 t.head,.int .i64 t.foot,.slice ar t.rows.length cr,.int .i64 t.gap] 26))) (fun _ i _=>C - (intOf i).toNat)
 case atStart=>exact ⟨0,rfl,Nat.zero_le _,by rw [List.take_zero];exact HR0.out.owns,HK0,HX0⟩
 case round =>
  clear HR0 HK0 HX0
  obtain ⟨k,rfl,hk,HO,HB,HX⟩:=hrel
  by_cases hlt:k < C
  case neg =>
   obtain rfl:k=C:=by omega
   have HR:=Hd (RowI.of_owns HO.out)
   rw [show (want1 t width L).take k=want1 t width L by rw [List.take_of_length_le (by rw [HLn.out];exact Nat.le_refl _)]] at HR
   go_wp2
   go_ret
   exact ⟨_,rfl,HR.out.base (by omega) (Nat.le_refl _),HB.out⟩
  have hwz:w.heap.size < wr.heap.size:=(bL HX.out)
  have b0:wr.cell? ⟨w.heap.size,0,none⟩=some (.slice ac t.cols.length cc):=cellB HX.out
  have b1:wr.cell? ⟨w.heap.size,1,none⟩=some (.int .i64 t.head):=cellB HX.out
  have b2:wr.cell? ⟨w.heap.size,2,none⟩=some (.int .i64 t.foot):=cellB HX.out
  have b3:wr.cell? ⟨w.heap.size,3,none⟩=some (.slice ar t.rows.length cr):=cellB HX.out
  have b4:wr.cell? ⟨w.heap.size,4,none⟩=some (.int .i64 t.gap):=cellB HX.out
  have KS:=Hd (specl5Said ac ar cc cr t (k:Int) (by omega) wr (HC.out.kept HB.out))
  have hkq:=kind_eq t 2 k
  have hol:((want1 t width L).take k).length≤k:=by rw [List.length_take];omega
  have HT:Hid ((want1 t width L).take (k+1)=(want1 t width L).take k ++ [(want1 t width L).getD k 0]):=by rw [Hid,take_nextI (by rw [HLn.out];exact hlt)]
  rw [HG.out k hlt] at HT
  have hkd:=HKd.out k hlt
  generalize (want1 t width L).take k=xs at HO HT hol
  generalize sd t.cols k=p at KS hkq HT hkd
  cases hp:kindP t 2 k with
  | false =>
   rw [hp] at hkq HT
   simp only [Bool.false_eq_true,if_false] at HT
   clear hp
   go_wp2_with fail
   refine KS.out.mono ?_
   rintro e w1 ⟨rfl,hb1⟩
   have HB1:=Hd (k_alloc (k_trans HB.out hb1) (.cells #[.int .i64 p.1,.int .i64 p.2] 130))
   have HX1:=Hd ((Below.heap_alloc w1 (.cells #[.int .i64 p.1,.int .i64 p.2] 130) w.heap.size (by have:=hb1.size;omega)).trans ((hb1.block w.heap.size hwz).trans HX.out))
   have hsz:w.heap.size+1≤w1.heap.size:=by have:=hb1.size;omega
   have hsz2:(w1.alloc (.cells #[.int .i64 p.1,.int .i64 p.2] 130)).heap.size=w1.heap.size+1:=by simp
   have HOx:=Hd (RowI.of_owns HO.out |>.kept (w':=w1.alloc (.cells #[.int .i64 p.1,.int .i64 p.2] 130)) (fun j h0 _ _=>(Below.heap_alloc _ _ _ (Nat.lt_of_lt_of_le h0 hb1.size)).trans (hb1.block j h0)))
   have HY:=Hd (newestB w1 (.cells #[.int .i64 p.1,.int .i64 p.2] 130))
   clear hb1 b0 b1 b2 b3 b4 HO HB HX
   go_upto_region 6 with fail
   generalize w1.alloc (.cells #[.int .i64 p.1,.int .i64 p.2] 130)=W2 at HB1 HX1 HOx HY hsz2 ⊢
   generalize w1.heap.size=yb at HY hsz hsz2 ⊢
   have hszW:w.heap.size+1≤W2.heap.size:=by omega
   clear hsz2
   have y0:W2.cell? ⟨yb,0,none⟩=some (.int .i64 p.1):=cellB HY.out
   have hO4:=HOx.out.owns
   go_wp2_with (at_builtin;refine wpList_append_own _ rfl _ _ 30 rfl (w.heap.size+1) 3 i0 (.int .i64 0) 1 8 Tryz.underlying30 hi hz0 hz1 hz2 rfl (by decide) _ _ _ rfl (hO4.alloc _) ⟨W2.heap.size,0,none⟩ 1 1 [.int .i64 0] rfl rfl ?c1 ?c2 ?c3 ?c4 ?c5 ?_)
   case c1 =>
    intro i u hi
    match i,hi with
    | 0,hi=>simp at hi;subst hi;simp [Addr.add]
   case c2=>intro u hu;simp at hu;subst hu;rfl
   case c3=>unfold maxLen;omega
   case c4=>omega
   case c5=>simp;omega
   intro v' w5 hown' hgrow' _
   obtain ⟨hB5,hX5⟩:=app_keeps (Nat.le_succ _) hO4 HB1.out hgrow'
   have HB5:=Hd hB5
   have HX5:=Hd ((hX5 w.heap.size (Nat.lt_succ_self _) (by omega)).trans HX1.out)
   have HO5:Hid (w5.ownsRow (w.heap.size+1) 3 1 v' (xs ++ [0]).length ((xs ++ [0]).map (Value.int .i64))):=by rw [List.length_append,List.map_append];exact hown'
   obtain ⟨g',cap'',rfl⟩:=Joins.ownsRow_form hown' (by omega)
   clear hown' hgrow' hO4 hB5 hX5 HB1 HX1
   go_wp2
   go_roundw
   case rel=>exact ⟨k+1,by go_num,by omega,by rw [HT.out];exact HO5,HB5,HX5⟩
   case measure=>simp [intOf];omega
  | true =>
   rw [hp] at hkq HT
   simp only [if_true] at HT
   have hp1:p.1=2:=by simpa using hkq
   clear hp hkq
   obtain ⟨b5,o5,c5,e5,hc51,hc52,hb5,hx5⟩:=H1.out.get (i:=k) (by rw [HL.out];exact hlt)
   rw [HL.out] at e5 hc51
   simp only [Value.slice.injEq,true_and] at e5
   obtain ⟨rfl,rfl⟩:=e5
   have hxs:=HLg.out k
   generalize L.getD k 0=x at hx5 hxs HT
   have hp2:1≤p.2∧p.2≤100:=by omega
   have hm0:0≤width * p.2:=Int.mul_nonneg hw.1 (by omega)
   have hm1:width * p.2≤30000:=Int.le_trans (Int.mul_le_mul hw.2 hp2.2 (by omega) (by omega)) (by omega)
   have hq:Int.tdiv (width * p.2) 100=width * p.2 / 100:=Int.tdiv_eq_ediv_of_nonneg hm0
   unfold maxLen at hc52
   go_wp2_with fail
   refine KS.out.mono ?_
   rintro e w1 ⟨rfl,hb1⟩
   have HB1:=Hd (k_alloc (k_trans HB.out hb1) (.cells #[.int .i64 p.1,.int .i64 p.2] 130))
   have HX1:=Hd ((Below.heap_alloc w1 (.cells #[.int .i64 p.1,.int .i64 p.2] 130) w.heap.size (by have:=hb1.size;omega)).trans ((hb1.block w.heap.size hwz).trans HX.out))
   have hsz:w.heap.size+1≤w1.heap.size:=by have:=hb1.size;omega
   have hsz2:(w1.alloc (.cells #[.int .i64 p.1,.int .i64 p.2] 130)).heap.size=w1.heap.size+1:=by simp
   have HOx:=Hd (RowI.of_owns HO.out |>.kept (w':=w1.alloc (.cells #[.int .i64 p.1,.int .i64 p.2] 130)) (fun j h0 _ _=>(Below.heap_alloc _ _ _ (Nat.lt_of_lt_of_le h0 hb1.size)).trans (hb1.block j h0)))
   have HY:=Hd (newestB w1 (.cells #[.int .i64 p.1,.int .i64 p.2] 130))
   clear hb1 b0 b1 b2 b3 b4 HO HB HX KS
   rw [hp1] at HB1 HX1 hsz2 HOx HY ⊢
   clear hp1
   go_upto_region 6 with fail
   generalize w1.alloc (.cells #[.int .i64 2,.int .i64 p.2] 130)=W2 at HB1 HX1 HOx HY hsz2 ⊢
   generalize w1.heap.size=yb at HY hsz hsz2 ⊢
   have y0:W2.cell? ⟨yb,0,none⟩=some (.int .i64 2):=cellB HY.out
   have hyb:yb < W2.heap.size:=(bL HY.out)
   have hwz2:w.heap.size < W2.heap.size:=by omega
   have hszW:w.heap.size+1≤W2.heap.size:=by omega
   clear hsz2
   have hne:=bw_some W2
   have m0:=bw_cell (a:=⟨yb,1,none⟩) hyb (cellB (p:=1) HY.out)
   have m1:=bw_cell (a:=⟨b5,o5+k,none⟩) (Nat.lt_of_lt_of_le hb5 HB1.out.size) ((HB1.out.cell (p:=⟨b5,o5+k,none⟩) hb5).trans hx5)
   have KM:=Hd (fun (W:World) (p:BW W) (i j:Int)=>bw_same (l1Max_any i j p.u))
   clear hx5
   go_upto_region 8 with fail
   refine wp_region_quiet_below hmx (by kernel_rfl) ?_
   repeat (go_big_quiet_step (first | (go_at_call 85;refine KM.out _ _ _ _)))
   refine wpQuiet_nil ?_
   intro W5 hw'
   obtain ⟨⟨Wx,hW5⟩,hw''⟩:=hw'
   subst hw''
   have HOz:=Hd (HOx.out.kept (fun j h0 _ _=>hW5.block j h0))
   have HYz:=(hW5.block _ hyb).trans HY.out
   replace HX1:=Hd ((hW5.block _ hwz2).trans HX1.out)
   replace HB1:=Hd (k_trans HB1.out hW5)
   have hsz5:w.heap.size+1≤W5.heap.size:=by have:=hW5.size;omega
   clear m0 m1 hne hW5 HOx HY y0
   have y0:W5.cell? ⟨yb,0,none⟩=some (.int .i64 2):=cellB HYz
   have hO4:=HOz.out.owns
   generalize max 0 (width * p.2 / 100 - x)=yy at HT ⊢
   go_wp2_with (at_builtin;refine wpList_append_own _ rfl _ _ 30 rfl (w.heap.size+1) 3 i0 (.int .i64 0) 1 8 Tryz.underlying30 hi hz0 hz1 hz2 rfl (by decide) _ _ _ rfl (hO4.alloc _) ⟨W5.heap.size,0,none⟩ 1 1 [.int .i64 yy] rfl rfl ?c1 ?c2 ?c3 ?c4 ?c5 ?_)
   case c1 =>
    intro i u hi
    match i,hi with
    | 0,hi=>simp at hi;subst hi;simp [Addr.add]
   case c2=>intro u hu;simp at hu;subst hu;rfl
   case c3=>unfold maxLen;omega
   case c4=>omega
   case c5=>simp;omega
   intro v' w5 hown' hgrow' _
   obtain ⟨hB5,hX5⟩:=app_keeps (Nat.le_succ _) hO4 HB1.out hgrow'
   have HB5:=Hd hB5
   have HX5:=Hd ((hX5 w.heap.size (Nat.lt_succ_self _) (by omega)).trans HX1.out)
   have HO5:Hid (w5.ownsRow (w.heap.size+1) 3 1 v' (xs ++ [yy]).length ((xs ++ [yy]).map (Value.int .i64))):=by rw [List.length_append,List.map_append];exact hown'
   obtain ⟨g',cap'',rfl⟩:=Joins.ownsRow_form hown' (by omega)
   clear hown' hgrow' hO4 hB5 hX5 HB1 HX1
   go_wp2
   go_roundw
   case rel=>exact ⟨k+1,by go_num,by omega,by rw [HT.out];exact HO5,HB5,HX5⟩
   case measure=>simp [intOf];omega
set_option maxRecDepth 100000 in
set_option maxHeartbeats 1000000 in
theorem specl6Wants0 (ac ar:Option Addr) (cc cr:Nat) (t:T) (width:Int) (L:List Int) (C:Nat) (hC:C≤88) (hLC:L.length=C) (hLs:L.all wtB=true) (ah aw:Option Addr) (ch cw:Nat) (w:World) {z:Nat} (hc:ColsAt w z (.slice ac t.cols.length cc) t.cols) (h1:IntsAt w (.slice ah C ch) L) (h2:IntsAt w (.slice aw C cw) (wishL t)) (hWu:UpB (wishL t) 5000) (hWl:(wishL t).length=C) :
  Calls Tryz.prog 91 #[.agg #[.slice ac t.cols.length cc,.int .i64 t.head,.int .i64 t.foot,.slice ar t.rows.length cr,.int .i64 t.gap],.int .i64 0,.slice ah C ch,.slice aw C cw,.int .i64 width] w fun e w'=>∃ v,e=.returned v∧RowI w' w.heap.size w'.heap.size v (want2 t L)∧Below w.heap.size w w':=by
 have hmx:Tryz.prog.follows .mixedOrders=true:=by kernel_rfl
 obtain ⟨i0,hi,hz0,hz1,hz2⟩:=info_parts infoIc
 have HC:=Hd hc
 have H1:=Hd h1
 have H2:=Hd h2
 have HWl:=Hd hWl
 have HWu:=Hd hWu
 have HL:=Hd hLC
 have HLn:Hid ((want2 t L).length=C):=by rw [Hid,want2_len t L,hLC]
 have HG:=Hd (fun k (hk:k < C)=>want2_get (t:=t) (l:=L) (k:=k) (by omega))
 have HLg:=Hd (getD_small hLs)
 have K1:=k_alloc (Below.refl w.heap.size w) (.cells #[.slice ac t.cols.length cc,.int .i64 t.head,.int .i64 t.foot,.slice ar t.rows.length cr,.int .i64 t.gap] 26)
 have X1:=newestB w (.cells #[.slice ac t.cols.length cc,.int .i64 t.head,.int .i64 t.foot,.slice ar t.rows.length cr,.int .i64 t.gap] 26)
 have hs1:(w.alloc (.cells #[.slice ac t.cols.length cc,.int .i64 t.head,.int .i64 t.foot,.slice ar t.rows.length cr,.int .i64 t.gap] 26)).heap.size=w.heap.size+1:=by simp
 have HR0:=Hd (row_lit (w.alloc (.cells #[.slice ac t.cols.length cc,.int .i64 t.head,.int .i64 t.foot,.slice ar t.rows.length cr,.int .i64 t.gap] 26)) (w.heap.size+1) (by omega))
 have HK0:=Hd (k_alloc K1 (.cells #[] 3))
 have HX0:=Hd ((Below.heap_alloc (w.alloc (.cells #[.slice ac t.cols.length cc,.int .i64 t.head,.int .i64 t.foot,.slice ar t.rows.length cr,.int .i64 t.gap] 26)) (.cells #[] 3) w.heap.size (by omega)).trans X1)
 rw [hs1] at HR0
 clear hc K1 X1 h1 h2 hWu hWl hLC hLs
 go_enter Tryz.func91,Tryz.ntmps91
 go_wp2_with fail
 go_loopw [11,12] (fun o i W=>∃ k:Nat,i=.int .i64 k∧k≤C∧Hid (W.ownsRow (w.heap.size+1) 3 1 o ((want2 t L).take k).length (((want2 t L).take k).map (Value.int .i64)))∧Hid (Below w.heap.size w W)∧Hid (W.heap[w.heap.size]?=some (.cells #[.slice ac t.cols.length cc,.int .i64 t.head,.int .i64 t.foot,.slice ar t.rows.length cr,.int .i64 t.gap] 26))) (fun _ i _=>C - (intOf i).toNat)
 case atStart=>exact ⟨0,rfl,Nat.zero_le _,by rw [List.take_zero];exact HR0.out.owns,HK0,HX0⟩
 case round =>
  clear HR0 HK0 HX0
  obtain ⟨k,rfl,hk,HO,HB,HX⟩:=hrel
  by_cases hlt:k < C
  case neg =>
   obtain rfl:k=C:=by omega
   have HR:=Hd (RowI.of_owns HO.out)
   rw [show (want2 t L).take k=want2 t L by rw [List.take_of_length_le (by rw [HLn.out];exact Nat.le_refl _)]] at HR
   go_wp2
   go_ret
   exact ⟨_,rfl,HR.out.base (by omega) (Nat.le_refl _),HB.out⟩
  have hwz:w.heap.size < wr.heap.size:=(bL HX.out)
  have b0:wr.cell? ⟨w.heap.size,0,none⟩=some (.slice ac t.cols.length cc):=cellB HX.out
  have b1:wr.cell? ⟨w.heap.size,1,none⟩=some (.int .i64 t.head):=cellB HX.out
  have b2:wr.cell? ⟨w.heap.size,2,none⟩=some (.int .i64 t.foot):=cellB HX.out
  have b3:wr.cell? ⟨w.heap.size,3,none⟩=some (.slice ar t.rows.length cr):=cellB HX.out
  have b4:wr.cell? ⟨w.heap.size,4,none⟩=some (.int .i64 t.gap):=cellB HX.out
  have KS:=Hd (specl5Said ac ar cc cr t (k:Int) (by omega) wr (HC.out.kept HB.out))
  have hkq:=kind_eq t 0 k
  have hol:((want2 t L).take k).length≤k:=by rw [List.length_take];omega
  have HT:Hid ((want2 t L).take (k+1)=(want2 t L).take k ++ [(want2 t L).getD k 0]):=by rw [Hid,take_nextI (by rw [HLn.out];exact hlt)]
  rw [HG.out k hlt] at HT
  generalize (want2 t L).take k=xs at HO HT hol
  generalize sd t.cols k=p at KS hkq HT
  cases hp:kindP t 0 k with
  | false =>
   rw [hp] at hkq HT
   simp only [Bool.false_eq_true,if_false] at HT
   clear hp
   go_wp2_with fail
   refine KS.out.mono ?_
   rintro e w1 ⟨rfl,hb1⟩
   have HB1:=Hd (k_alloc (k_trans HB.out hb1) (.cells #[.int .i64 p.1,.int .i64 p.2] 130))
   have HX1:=Hd ((Below.heap_alloc w1 (.cells #[.int .i64 p.1,.int .i64 p.2] 130) w.heap.size (by have:=hb1.size;omega)).trans ((hb1.block w.heap.size hwz).trans HX.out))
   have hsz:w.heap.size+1≤w1.heap.size:=by have:=hb1.size;omega
   have hsz2:(w1.alloc (.cells #[.int .i64 p.1,.int .i64 p.2] 130)).heap.size=w1.heap.size+1:=by simp
   have HOx:=Hd (RowI.of_owns HO.out |>.kept (w':=w1.alloc (.cells #[.int .i64 p.1,.int .i64 p.2] 130)) (fun j h0 _ _=>(Below.heap_alloc _ _ _ (Nat.lt_of_lt_of_le h0 hb1.size)).trans (hb1.block j h0)))
   have HY:=Hd (newestB w1 (.cells #[.int .i64 p.1,.int .i64 p.2] 130))
   clear hb1 b0 b1 b2 b3 b4 HO HB HX
   go_upto_region 6 with fail
   generalize w1.alloc (.cells #[.int .i64 p.1,.int .i64 p.2] 130)=W2 at HB1 HX1 HOx HY hsz2 ⊢
   generalize w1.heap.size=yb at HY hsz hsz2 ⊢
   have hszW:w.heap.size+1≤W2.heap.size:=by omega
   clear hsz2
   have y0:W2.cell? ⟨yb,0,none⟩=some (.int .i64 p.1):=cellB HY.out
   have hO4:=HOx.out.owns
   go_wp2_with (at_builtin;refine wpList_append_own _ rfl _ _ 30 rfl (w.heap.size+1) 3 i0 (.int .i64 0) 1 8 Tryz.underlying30 hi hz0 hz1 hz2 rfl (by decide) _ _ _ rfl (hO4.alloc _) ⟨W2.heap.size,0,none⟩ 1 1 [.int .i64 0] rfl rfl ?c1 ?c2 ?c3 ?c4 ?c5 ?_)
   case c1 =>
    intro i u hi
    match i,hi with
    | 0,hi=>simp at hi;subst hi;simp [Addr.add]
   case c2=>intro u hu;simp at hu;subst hu;rfl
   case c3=>unfold maxLen;omega
   case c4=>omega
   case c5=>simp;omega
   intro v' w5 hown' hgrow' _
   obtain ⟨hB5,hX5⟩:=app_keeps (Nat.le_succ _) hO4 HB1.out hgrow'
   have HB5:=Hd hB5
   have HX5:=Hd ((hX5 w.heap.size (Nat.lt_succ_self _) (by omega)).trans HX1.out)
   have HO5:Hid (w5.ownsRow (w.heap.size+1) 3 1 v' (xs ++ [0]).length ((xs ++ [0]).map (Value.int .i64))):=by rw [List.length_append,List.map_append];exact hown'
   obtain ⟨g',cap'',rfl⟩:=Joins.ownsRow_form hown' (by omega)
   clear hown' hgrow' hO4 hB5 hX5 HB1 HX1
   go_wp2
   go_roundw
   case rel=>exact ⟨k+1,by go_num,by omega,by rw [HT.out];exact HO5,HB5,HX5⟩
   case measure=>simp [intOf];omega
  | true =>
   rw [hp] at hkq HT
   simp only [if_true] at HT
   have hp1:p.1=0:=by simpa using hkq
   clear hp hkq
   obtain ⟨b5,o5,c5,e5,hc51,hc52,hb5,hx5⟩:=H1.out.get (i:=k) (by rw [HL.out];exact hlt)
   rw [HL.out] at e5 hc51
   simp only [Value.slice.injEq,true_and] at e5
   obtain ⟨rfl,rfl⟩:=e5
   have hxs:=HLg.out k
   generalize L.getD k 0=x at hx5 hxs HT
   obtain ⟨b6,o6,c6,e6,hc61,hc62,hb6,hx6⟩:=H2.out.get (i:=k) (by rw [HWl.out];exact hlt)
   rw [HWl.out] at e6 hc61
   simp only [Value.slice.injEq,true_and] at e6
   obtain ⟨rfl,rfl⟩:=e6
   have hys:=HWu.out k (by rw [HWl.out];exact hlt)
   generalize (wishL t).getD k 0=y at hx6 hys HT
   unfold maxLen at hc52 hc62
   go_wp2_with fail
   refine KS.out.mono ?_
   rintro e w1 ⟨rfl,hb1⟩
   have HB1:=Hd (k_alloc (k_trans HB.out hb1) (.cells #[.int .i64 p.1,.int .i64 p.2] 130))
   have HX1:=Hd ((Below.heap_alloc w1 (.cells #[.int .i64 p.1,.int .i64 p.2] 130) w.heap.size (by have:=hb1.size;omega)).trans ((hb1.block w.heap.size hwz).trans HX.out))
   have hsz:w.heap.size+1≤w1.heap.size:=by have:=hb1.size;omega
   have hsz2:(w1.alloc (.cells #[.int .i64 p.1,.int .i64 p.2] 130)).heap.size=w1.heap.size+1:=by simp
   have HOx:=Hd (RowI.of_owns HO.out |>.kept (w':=w1.alloc (.cells #[.int .i64 p.1,.int .i64 p.2] 130)) (fun j h0 _ _=>(Below.heap_alloc _ _ _ (Nat.lt_of_lt_of_le h0 hb1.size)).trans (hb1.block j h0)))
   have HY:=Hd (newestB w1 (.cells #[.int .i64 p.1,.int .i64 p.2] 130))
   clear hb1 b0 b1 b2 b3 b4 HO HB HX KS
   rw [hp1] at HB1 HX1 hsz2 HOx HY ⊢
   clear hp1
   go_upto_region 6 with fail
   generalize w1.alloc (.cells #[.int .i64 0,.int .i64 p.2] 130)=W2 at HB1 HX1 HOx HY hsz2 ⊢
   generalize w1.heap.size=yb at HY hsz hsz2 ⊢
   have y0:W2.cell? ⟨yb,0,none⟩=some (.int .i64 0):=cellB HY.out
   have hyb:yb < W2.heap.size:=(bL HY.out)
   have hwz2:w.heap.size < W2.heap.size:=by omega
   have hszW:w.heap.size+1≤W2.heap.size:=by omega
   clear hsz2
   have hne:=bw_some W2
   have m0:=bw_cell (a:=⟨yb,1,none⟩) hyb (cellB (p:=1) HY.out)
   have m1:=bw_cell (a:=⟨b5,o5+k,none⟩) (Nat.lt_of_lt_of_le hb5 HB1.out.size) ((HB1.out.cell (p:=⟨b5,o5+k,none⟩) hb5).trans hx5)
   have m2:=bw_cell (a:=⟨b6,o6+k,none⟩) (Nat.lt_of_lt_of_le hb6 HB1.out.size) ((HB1.out.cell (p:=⟨b6,o6+k,none⟩) hb6).trans hx6)
   have KM:=Hd (fun (W:World) (p:BW W) (i j:Int)=>bw_same (l1Max_any i j p.u))
   clear hx5 hx6
   go_upto_region 10 with fail
   refine wp_region_quiet_below hmx (by kernel_rfl) ?_
   repeat (go_big_quiet_step (first | (go_at_call 85;refine KM.out _ _ _ _)))
   refine wpQuiet_nil ?_
   intro W5 hw'
   obtain ⟨⟨Wx,hW5⟩,hw''⟩:=hw'
   subst hw''
   have HOz:=Hd (HOx.out.kept (fun j h0 _ _=>hW5.block j h0))
   have HYz:=(hW5.block _ hyb).trans HY.out
   replace HX1:=Hd ((hW5.block _ hwz2).trans HX1.out)
   replace HB1:=Hd (k_trans HB1.out hW5)
   have hsz5:w.heap.size+1≤W5.heap.size:=by have:=hW5.size;omega
   clear m0 m1 m2 hne hW5 HOx HY y0
   have y0:W5.cell? ⟨yb,0,none⟩=some (.int .i64 0):=cellB HYz
   have hO4:=HOz.out.owns
   generalize max 0 (y - x)=yy at HT ⊢
   go_wp2_with (at_builtin;refine wpList_append_own _ rfl _ _ 30 rfl (w.heap.size+1) 3 i0 (.int .i64 0) 1 8 Tryz.underlying30 hi hz0 hz1 hz2 rfl (by decide) _ _ _ rfl (hO4.alloc _) ⟨W5.heap.size,0,none⟩ 1 1 [.int .i64 yy] rfl rfl ?c1 ?c2 ?c3 ?c4 ?c5 ?_)
   case c1 =>
    intro i u hi
    match i,hi with
    | 0,hi=>simp at hi;subst hi;simp [Addr.add]
   case c2=>intro u hu;simp at hu;subst hu;rfl
   case c3=>unfold maxLen;omega
   case c4=>omega
   case c5=>simp;omega
   intro v' w5 hown' hgrow' _
   obtain ⟨hB5,hX5⟩:=app_keeps (Nat.le_succ _) hO4 HB1.out hgrow'
   have HB5:=Hd hB5
   have HX5:=Hd ((hX5 w.heap.size (Nat.lt_succ_self _) (by omega)).trans HX1.out)
   have HO5:Hid (w5.ownsRow (w.heap.size+1) 3 1 v' (xs ++ [yy]).length ((xs ++ [yy]).map (Value.int .i64))):=by rw [List.length_append,List.map_append];exact hown'
   obtain ⟨g',cap'',rfl⟩:=Joins.ownsRow_form hown' (by omega)
   clear hown' hgrow' hO4 hB5 hX5 HB1 HX1
   go_wp2
   go_roundw
   case rel=>exact ⟨k+1,by go_num,by omega,by rw [HT.out];exact HO5,HB5,HX5⟩
   case measure=>simp [intOf];omega
end Go.Proofs.YtojogjlblgcioanGreat
