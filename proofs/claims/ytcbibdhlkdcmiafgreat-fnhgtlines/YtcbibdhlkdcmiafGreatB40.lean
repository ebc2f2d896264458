/-
  PROVED HERE: the model's l7Lines at a drawn table's grid, by any widths: the lines of each cell, in memory of their own; nothing that was in memory is turned.
-/
import Derived.Test.YtcbibdhlkdcmiafGreatB24
import Derived.Test.YtcbibdhlkdcmiafGreatB34
import Derived.Test.YtcbibdhlkdcmiafGreatB38
import Derived.Test.YtcbibdhlkdcmiafGreatB32
import Derived.Test.YtcbibdhlkdcmiafGreatB12
import Derived.Test.YtcbibdhlkdcmiafGreatB35
import Derived.Test.YtcbibdhlkdcmiafGreatB33
import Derived.Deep.DeepCutAuto
import Derived.Deep.RegionWith
import Derived.Deep.QuietTactic
import Derived.BigQuiet
namespace Go.Proofs.YtcbibdhlkdcmiafGreat
open Go.RowKit Go.BigFrame

structure L7J (w W1 W3:World) (BB:Nat) (ac ar ag:Option Addr) (cc cr cg:Nat) (t:T) (x:GC) (U:Value) (us:List Value) (ls:List (List ByteArray)) (lns:List ByteArray) (s:ByteArray) (q:Int) (va:Value) (k tb gb cb b off:Nat) (L:Nat→Bool) (W:World) (v7 v17 v18 v19 v20 v21 v22 v23 v24 v25 v26 v27 v28 v29 v30 v31 v32 v33 v34 v35 v36:Value):Prop where
 f0:L 0=true→v17=U
 f1:L 1=true→v18=.agg #[.slice ac t.cols.length cc,.int .i64 t.head,.int .i64 t.foot,.slice ar t.rows.length cr,.int .i64 t.gap]
 f2:L 2=true→v19=.pointer (some ⟨gb,2,none⟩)
 f3:L 3=true→v20=.slice (some ⟨b,off,none⟩) (gOf t).cells.length cg
 f4:L 4=true→v21=.int .i64 (k:Int)
 f5:L 5=true→v22=.pointer (some ⟨b,off+k * 5,none⟩)
 f6:L 6=true→v23=.agg #[.int .i64 x.row,.int .i64 x.col,.int .i64 x.rows,.int .i64 x.cols,.int .i64 x.ins]
 f7:L 7=true→v24=.string s
 f8:L 8=true→v25=va
 f9:L 9=true→v26=.pointer (some ⟨tb,4,none⟩)
 f10:L 10=true→v27=.int .i64 t.gap
 f11:L 11=true→v28=.pointer (some ⟨gb,2,none⟩)
 f12:L 12=true→v29=.slice (some ⟨b,off,none⟩) (gOf t).cells.length cg
 f13:L 13=true→v30=.int .i64 (k:Int)
 f14:L 14=true→v31=.pointer (some ⟨b,off+k * 5,none⟩)
 f15:L 15=true→v32=.agg #[.int .i64 x.row,.int .i64 x.col,.int .i64 x.rows,.int .i64 x.cols,.int .i64 x.ins]
 f16:L 16=true→v33=.int .i64 q
 f17:L 17=true→L 19=false→RowS W BB v34 lns
 f18:L 18=true→∃ g,v35=.slice (some ⟨g,0,none⟩) 1 1∧(L 19=false→W.cell? ⟨g,0,none⟩=some v34)
 fA:L 20=true→v7=v36
 nA:L 20=false→v7=U
 b4:L 19=false→Below W3.heap.size W3 W
 bel:Below W1.heap.size W1 W
 ownA:L 19=true→W.ownsRow BB 51 1 v36 (us ++ [v34]).length (us ++ [v34])∧RowSs W BB (us ++ [v34]) (ls ++ [lns])
set_option maxRecDepth 100000 in
set_option maxHeartbeats 4000000 in
theorem specl7Lines (ac ar ag al:Option Addr) (cc cr cg cl n:Nat) (t:T) (hD:Drawn t) (l:List Int) (hl1:l.length≤1048576) (w:World) {z zg:Nat} (hT:TA w z ac ar cc cr t) (hG:GsAt w zg (.slice ag (gOf t).cells.length cg) (gOf t).cells) (hI:IntsAt w (.slice al n cl) l) :
  Calls Tryz.prog 58 #[.agg #[.slice ac t.cols.length cc,.int .i64 t.head,.int .i64 t.foot,.slice ar t.rows.length cr,.int .i64 t.gap],.agg #[.int .i64 (gOf t).rows,.int .i64 (gOf t).cols,.slice ag (gOf t).cells.length cg],.slice al n cl] w fun e w'=>∃ v,e=.returned v∧LlsAt w' w.heap.size v (linesL t l (gOf t).cells)∧Below w.heap.size w w':=by
 have hmx:Tryz.prog.follows .mixedOrders=true:=by kernel_rfl
 obtain ⟨i0,hi0,hz0,hz1,hz2⟩:=info_parts infoSs
 obtain ⟨h40,C,hgc,hC88,hcel⟩:=cel_of hD
 obtain ⟨W1,hW1⟩:∃ W1,w.alloc (.cells #[.slice ac t.cols.length cc,.int .i64 t.head,.int .i64 t.foot,.slice ar t.rows.length cr,.int .i64 t.gap] 26)=W1:=⟨_,rfl⟩
 have hs1:W1.heap.size=w.heap.size+1:=by rw [← hW1];simp
 have K1:Below w.heap.size w W1:=by rw [← hW1];exact k_alloc (Below.refl _ _) _
 have X1:W1.heap[w.heap.size]?=some (.cells #[.slice ac t.cols.length cc,.int .i64 t.head,.int .i64 t.foot,.slice ar t.rows.length cr,.int .i64 t.gap] 26):=by rw [← hW1];exact newestB _ _
 obtain ⟨W2,hW2⟩:∃ W2,W1.alloc (.cells #[.int .i64 (gOf t).rows,.int .i64 (gOf t).cols,.slice ag (gOf t).cells.length cg] 46)=W2:=⟨_,rfl⟩
 have hs2:W2.heap.size=w.heap.size+2:=by rw [← hW2];simp [hs1]
 have K2:Below w.heap.size w W2:=by rw [← hW2];exact k_alloc K1 _
 have X2:W2.heap[w.heap.size]?=some (.cells #[.slice ac t.cols.length cc,.int .i64 t.head,.int .i64 t.foot,.slice ar t.rows.length cr,.int .i64 t.gap] 26):=by rw [← hW2];exact (Below.heap_alloc _ _ _ (by omega)).trans X1
 have Y2:W2.heap[w.heap.size+1]?=some (.cells #[.int .i64 (gOf t).rows,.int .i64 (gOf t).cols,.slice ag (gOf t).cells.length cg] 46):=by
  have:=newestB W1 (.cells #[.int .i64 (gOf t).rows,.int .i64 (gOf t).cols,.slice ag (gOf t).cells.length cg] 46)
  rw [hW2,hs1] at this
  exact this
 have HM:=Hid.intro (And.intro (hT.kept K2) (And.intro (hG.kept K2) (And.intro (hI.kept K2) (And.intro X2 Y2))))
 have HK2:=Hid.intro K2
 have HCel:=Hid.intro hcel
 have HLe:=Hid.intro (linesL_len t l (gOf t).cells)
 have HLn:=Hid.intro (fun k (h:k < (gOf t).cells.length)=>linesL_next t l h)
 have HLs:=Hid.intro (linesL_size t l (gOf t).cells)
 have HB0:=Hid.intro (k_alloc (Below.refl W2.heap.size W2) (.cells #[] 51))
 have HO0:Hid ((W2.alloc (.cells #[] 51)).ownsRow W2.heap.size 51 1 (.slice (some ⟨W2.heap.size,0,none⟩) 0 0) ([]:List Value).length []):=World.ownsRow_made (base:=W2.heap.size) (e:=51) (size:=1) W2 #[] 0 (Nat.le_refl _) (Nat.zero_le _) rfl
 clear hT hG hI X1 K1 X2 Y2 K2 hcel hgc hD
 go_enter Tryz.func58,Tryz.ntmps58
 go_upto_region 1 with fail
 clear hW1 hW2 W1 hs1
 have HS2:=Hid.intro hs2
 go_wp2_with fail
 rw [show w.heap.size+1+1=W2.heap.size from hs2.symm]
 clear hs2
 go_loopw [7,8] (fun o i W=>∃ (k:Nat) (us:List Value),i=.int .i64 k∧k≤(gOf t).cells.length∧Hid (W.ownsRow W2.heap.size 51 1 o us.length us)∧Hid (RowSs W W2.heap.size us ((linesL t l (gOf t).cells).take k))∧Hid (Below W2.heap.size W2 W)) (fun _ i _=>(gOf t).cells.length - (intOf i).toNat)
 case atStart=>exact ⟨0,[],rfl,Nat.zero_le _,HO0,by rw [List.take_zero];exact RowSs.nil _ _,HB0⟩
 case round =>
  clear HO0 HB0
  obtain ⟨k,us,rfl,hk,HO,HRs,HB1⟩:=hrel
  have X:=Hid.intro ((HB1.out.block w.heap.size (by rw [HS2.out];omega)).trans HM.out.2.2.2.1)
  have Y:=Hid.intro ((HB1.out.block (w.heap.size+1) (by rw [HS2.out];omega)).trans HM.out.2.2.2.2)
  have y2:wr.cell? ⟨w.heap.size+1,2,none⟩=some (.slice ag (gOf t).cells.length cg):=cellB Y.out
  have hyw:w.heap.size+1 < wr.heap.size:=(Array.getElem?_eq_some_iff.1 Y.out).1
  by_cases hkl:k < (gOf t).cells.length
  case neg =>
   obtain rfl:k=(gOf t).cells.length:=by omega
   rw [← HLe.out,List.take_length] at HRs
   have HF:=Hid.intro (HRs.out.lls HO.out (z:=w.heap.size) (by rw [HS2.out];omega) (by rw [HS2.out];omega) HLs.out)
   have HK:=Hid.intro (HK2.out.trans (HB1.out.mono (by rw [HS2.out];omega)))
   go_wp2
   go_ret
   exact ⟨_,rfl,HF.out,HK.out⟩
  obtain ⟨b,off,cap',e',hc1,hc2,hbl,hx,hxo⟩:=At.get (HM.out.2.1.kept HB1.out) hkl
  simp only [Value.slice.injEq,true_and] at e'
  obtain ⟨rfl,rfl⟩:=e'
  have HNx:=Hid.intro (HLn.out k hkl)
  have HCx:=Hid.intro (HCel.out k hkl)
  generalize (linesL t l (gOf t).cells).take k=ls at HRs HNx
  generalize (gOf t).cells.getD k dG=x at hx hxo HNx HCx
  obtain ⟨x0,x1,x2,x3,x4⟩:=hx
  have hsz:(textOf t x).size≤maxLen:=text_size HCx.out HM.out.1.2
  have HQ:=Hid.intro (cellV_i64 l t.gap x)
  have KT:=Hid.intro (fun W (h:Below wr.heap.size wr W)=>specl5Text ac ar cc cr t x HCx.out W ((HM.out.1.2.kept HB1.out).kept h))
  have KW:=Hid.intro (fun W (h:Below wr.heap.size wr W)=>specWidCell _ l hl1 t.gap x hxo W ((HM.out.2.2.1.kept HB1.out).kept h))
  have KL:=Hid.intro (fun W=>specTxtLines (textOf t x) hsz (cellV l t.gap x) HQ.out W)
  have HNy:Hid ((linesL t l (gOf t).cells).take (k+1)=ls ++ [lnOut (lnSt (cellV l t.gap x) (wordsW (textOf t x)))]):=HNx.out
  clear HNx HQ hsz
  have HNx:=HNy
  clear HNy HCx hxo
  generalize lnOut (lnSt (cellV l t.gap x) (wordsW (textOf t x)))=lns at KL HNx
  generalize cellV l t.gap x=q at KW KL
  generalize textOf t x=s at KT KL
  have HX:Hid (wr.heap[w.heap.size]?=some (.cells #[.slice ac t.cols.length cc,.int .i64 t.head,.int .i64 t.foot,.slice ar t.rows.length cr,.int .i64 t.gap] 26)):=X
  have HY:Hid (wr.heap[w.heap.size+1]?=some (.cells #[.int .i64 (gOf t).rows,.int .i64 (gOf t).cols,.slice (some ⟨b,off,none⟩) (gOf t).cells.length cg] 46)):=Y
  have hlt0:w.heap.size < wr.heap.size:=by omega
  have hlg:=hyw
  have husl:us.length≤40:=by have h1:=HRs.out.1;have h2:=congrArg List.length HNx.out;rw [List.length_append,List.length_take,List.length_singleton] at h2;omega
  have HBs:Hid (∀ {m:Nat},W2.heap.size≤m→W2.heap.size≤m):=fun h=>h
  have HBs2:Hid (∀ {m:Nat},W2.heap.size≤m→W2.heap.size≤m):=fun h=>h
  unfold maxLen at hc2
  clear X Y HCel HLn HLs HLe
  go_upto_region 5 with fail
  refine wp_region_inv2 (fun L act W=>∃ v7 v17 v18 v19 v20 v21 v22 v23 v24 v25 v26 v27 v28 v29 v30 v31 v32 v33 v34 v35 v36:Value,act=⟨#[.agg #[.slice ac t.cols.length cc,.int .i64 t.head,.int .i64 t.foot,.slice ar t.rows.length cr,.int .i64 t.gap],.agg #[.int .i64 (gOf t).rows,.int .i64 (gOf t).cols,.slice (some ⟨b,off,none⟩) (gOf t).cells.length cg],.slice al n cl,.pointer (some ⟨w.heap.size,0,none⟩),.pointer (some ⟨w.heap.size+1,0,none⟩),undef,.slice none 0 0,v7,.int .i64 (k:Int),.slice (some ⟨W2.heap.size,0,none⟩) 0 0,.int .i64 (k:Int),.pointer (some ⟨w.heap.size+1,2,none⟩),.slice (some ⟨b,off,none⟩) (gOf t).cells.length cg,.int .i64 ((gOf t).cells.length:Int),.bool true,u15,u16,v17,v18,v19,v20,v21,v22,v23,v24,v25,v26,v27,v28,v29,v30,v31,v32,v33,v34,v35,v36,undef],[]⟩∧L7J w W2 wr W2.heap.size ac ar (some ⟨b,off,none⟩) cc cr cg t x u7 us ls lns s q (.slice al n cl) k w.heap.size (w.heap.size+1) 0 b off L W v7 v17 v18 v19 v20 v21 v22 v23 v24 v25 v26 v27 v28 v29 v30 v31 v32 v33 v34 v35 v36) hmx (by kernel_rfl) ?hs ?hd ?h0
  case h0=>exact ⟨_,_,_,_,_,_,_,_,_,_,_,_,_,_,_,_,_,_,_,_,_,rfl,⟨(fun h=>by cases h),(fun h=>by cases h),(fun h=>by cases h),(fun h=>by cases h),(fun h=>by cases h),(fun h=>by cases h),(fun h=>by cases h),(fun h=>by cases h),(fun h=>by cases h),(fun h=>by cases h),(fun h=>by cases h),(fun h=>by cases h),(fun h=>by cases h),(fun h=>by cases h),(fun h=>by cases h),(fun h=>by cases h),(fun h=>by cases h),(fun h=>by cases h),(fun h=>by cases h),(fun h=>by cases h),(fun _=>rfl),(fun _=>k_drew (Below.refl _ _)),k_drew HB1.out,(fun h=>by cases h)⟩⟩
  case hd =>
   intro L act W hJ hall
   obtain ⟨v7,v17,v18,v19,v20,v21,v22,v23,v24,v25,v26,v27,v28,v29,v30,v31,v32,v33,v34,v35,v36,ha,J⟩:=hJ
   subst ha
   obtain rfl:=J.fA (hall 20 (by decide))
   obtain ⟨ho5,hr5⟩:=J.ownA (hall 19 (by decide))
   have HO5:=Hid.intro ho5
   have HR5:=Hid.intro hr5
   have HB5:=Hid.intro J.bel
   obtain ⟨g',cap'',rfl⟩:=Joins.ownsRow_form HO5.out (by simp)
   clear J hall ho5 hr5
   go_wp2
   go_roundw
   case rel=>exact ⟨k+1,_,by go_num,by omega,HO5,by rw [HNx.out];exact HR5,HB5⟩
   case measure=>simp [intOf];omega
  case hs =>
   intro L act W i o hJ hcl ho hLi haft K hK
   obtain ⟨v7,v17,v18,v19,v20,v21,v22,v23,v24,v25,v26,v27,v28,v29,v30,v31,v32,v33,v34,v35,v36,ha,J⟩:=hJ
   subst ha
   have hi':i < 21:=by
    have:=(Array.getElem?_eq_some_iff.1 ho).1
    simpa using this
   rcases (by omega:i=0∨i=1∨i=2∨i=3∨i=4∨i=5∨i=6∨i=7∨i=8∨i=9∨i=10∨i=11∨i=12∨i=13∨i=14∨i=15∨i=16∨i=17∨i=18∨i=19∨i=20) with rfl | rfl | rfl | rfl | rfl | rfl | rfl | rfl | rfl | rfl | rfl | rfl | rfl | rfl | rfl | rfl | rfl | rfl | rfl | rfl | rfl
   all_goals
    simp only [List.getElem?_toArray,List.getElem?_cons_zero,List.getElem?_cons_succ,Option.some.injEq] at ho
    subst ho
    clear hi'
   ·skip
    have hAp:L 19=false:=(hcl 19 0 (by kernel_rfl) hLi)
    have hAs:L 20=false:=(hcl 20 19 (by kernel_rfl) (hcl 19 0 (by kernel_rfl) hLi))
    have B4:=J.b4 hAp
    obtain rfl:=J.nA hAs
    go_simp
    exact hK _ _ ⟨_,_,_,_,_,_,_,_,_,_,_,_,_,_,_,_,_,_,_,_,_,rfl,⟨(fun _=>rfl),(fun h=>J.f1 (un h)),(fun h=>J.f2 (un h)),(fun h=>J.f3 (un h)),(fun h=>J.f4 (un h)),(fun h=>J.f5 (un h)),(fun h=>J.f6 (un h)),(fun h=>J.f7 (un h)),(fun h=>J.f8 (un h)),(fun h=>J.f9 (un h)),(fun h=>J.f10 (un h)),(fun h=>J.f11 (un h)),(fun h=>J.f12 (un h)),(fun h=>J.f13 (un h)),(fun h=>J.f14 (un h)),(fun h=>J.f15 (un h)),(fun h=>J.f16 (un h)),(fun h h2=>J.f17 (un h) (by rwa [upd_ne rfl] at h2)),(fun h=>by obtain ⟨g,e,c⟩:=J.f18 (un h);exact ⟨g,e,fun h2=>c (by rwa [upd_ne rfl] at h2)⟩),(fun h=>absurd (by rwa [upd_ne rfl] at h:L 20=true) (by rw [hAs];simp)),(fun h=>J.nA (un h)),(fun _=>B4),J.bel,(fun h=>absurd (by rwa [upd_ne rfl] at h:L 19=true) (by rw [hAp];simp))⟩⟩
   ·skip
    have hAp:L 19=false:=(hcl 19 18 (by kernel_rfl) (hcl 18 17 (by kernel_rfl) (hcl 17 7 (by kernel_rfl) (hcl 7 1 (by kernel_rfl) hLi))))
    have hAs:L 20=false:=(hcl 20 19 (by kernel_rfl) (hcl 19 18 (by kernel_rfl) (hcl 18 17 (by kernel_rfl) (hcl 17 7 (by kernel_rfl) (hcl 7 1 (by kernel_rfl) hLi)))))
    have B4:=J.b4 hAp
    obtain ⟨q0,q1,q2,q3,q4⟩:=fiveO ((B4.block _ hlt0).trans HX.out)
    have hl:=Nat.lt_of_lt_of_le hlt0 B4.size
    go_simp
    exact hK _ _ ⟨_,_,_,_,_,_,_,_,_,_,_,_,_,_,_,_,_,_,_,_,_,rfl,⟨(fun h=>J.f0 (un h)),(fun _=>rfl),(fun h=>J.f2 (un h)),(fun h=>J.f3 (un h)),(fun h=>J.f4 (un h)),(fun h=>J.f5 (un h)),(fun h=>J.f6 (un h)),(fun h=>J.f7 (un h)),(fun h=>J.f8 (un h)),(fun h=>J.f9 (un h)),(fun h=>J.f10 (un h)),(fun h=>J.f11 (un h)),(fun h=>J.f12 (un h)),(fun h=>J.f13 (un h)),(fun h=>J.f14 (un h)),(fun h=>J.f15 (un h)),(fun h=>J.f16 (un h)),(fun h h2=>J.f17 (un h) (by rwa [upd_ne rfl] at h2)),(fun h=>by obtain ⟨g,e,c⟩:=J.f18 (un h);exact ⟨g,e,fun h2=>c (by rwa [upd_ne rfl] at h2)⟩),(fun h=>absurd (by rwa [upd_ne rfl] at h:L 20=true) (by rw [hAs];simp)),(fun h=>J.nA (un h)),(fun _=>B4),J.bel,(fun h=>absurd (by rwa [upd_ne rfl] at h:L 19=true) (by rw [hAp];simp))⟩⟩
   ·skip
    have hAp:L 19=false:=(hcl 19 18 (by kernel_rfl) (hcl 18 17 (by kernel_rfl) (hcl 17 7 (by kernel_rfl) (hcl 7 6 (by kernel_rfl) (hcl 6 5 (by kernel_rfl) (hcl 5 3 (by kernel_rfl) (hcl 3 2 (by kernel_rfl) hLi)))))))
    have hAs:L 20=false:=(hcl 20 19 (by kernel_rfl) (hcl 19 18 (by kernel_rfl) (hcl 18 17 (by kernel_rfl) (hcl 17 7 (by kernel_rfl) (hcl 7 6 (by kernel_rfl) (hcl 6 5 (by kernel_rfl) (hcl 5 3 (by kernel_rfl) (hcl 3 2 (by kernel_rfl) hLi))))))))
    have B4:=J.b4 hAp
    go_simp
    exact hK _ _ ⟨_,_,_,_,_,_,_,_,_,_,_,_,_,_,_,_,_,_,_,_,_,rfl,⟨(fun h=>J.f0 (un h)),(fun h=>J.f1 (un h)),(fun _=>rfl),(fun h=>J.f3 (un h)),(fun h=>J.f4 (un h)),(fun h=>J.f5 (un h)),(fun h=>J.f6 (un h)),(fun h=>J.f7 (un h)),(fun h=>J.f8 (un h)),(fun h=>J.f9 (un h)),(fun h=>J.f10 (un h)),(fun h=>J.f11 (un h)),(fun h=>J.f12 (un h)),(fun h=>J.f13 (un h)),(fun h=>J.f14 (un h)),(fun h=>J.f15 (un h)),(fun h=>J.f16 (un h)),(fun h h2=>J.f17 (un h) (by rwa [upd_ne rfl] at h2)),(fun h=>by obtain ⟨g,e,c⟩:=J.f18 (un h);exact ⟨g,e,fun h2=>c (by rwa [upd_ne rfl] at h2)⟩),(fun h=>absurd (by rwa [upd_ne rfl] at h:L 20=true) (by rw [hAs];simp)),(fun h=>J.nA (un h)),(fun _=>B4),J.bel,(fun h=>absurd (by rwa [upd_ne rfl] at h:L 19=true) (by rw [hAp];simp))⟩⟩
   ·skip
    have hAp:L 19=false:=(hcl 19 18 (by kernel_rfl) (hcl 18 17 (by kernel_rfl) (hcl 17 7 (by kernel_rfl) (hcl 7 6 (by kernel_rfl) (hcl 6 5 (by kernel_rfl) (hcl 5 3 (by kernel_rfl) hLi))))))
    have hAs:L 20=false:=(hcl 20 19 (by kernel_rfl) (hcl 19 18 (by kernel_rfl) (hcl 18 17 (by kernel_rfl) (hcl 17 7 (by kernel_rfl) (hcl 7 6 (by kernel_rfl) (hcl 6 5 (by kernel_rfl) (hcl 5 3 (by kernel_rfl) hLi)))))))
    have B4:=J.b4 hAp
    obtain ⟨q0,q1,q2⟩:=threeO ((B4.block _ hlg).trans HY.out)
    have hl:=Nat.lt_of_lt_of_le hlg B4.size
    obtain rfl:=J.f2 (haft ⟨2,.data⟩ (by simp) rfl)
    go_simp
    exact hK _ _ ⟨_,_,_,_,_,_,_,_,_,_,_,_,_,_,_,_,_,_,_,_,_,rfl,⟨(fun h=>J.f0 (un h)),(fun h=>J.f1 (un h)),(fun h=>J.f2 (un h)),(fun _=>rfl),(fun h=>J.f4 (un h)),(fun h=>J.f5 (un h)),(fun h=>J.f6 (un h)),(fun h=>J.f7 (un h)),(fun h=>J.f8 (un h)),(fun h=>J.f9 (un h)),(fun h=>J.f10 (un h)),(fun h=>J.f11 (un h)),(fun h=>J.f12 (un h)),(fun h=>J.f13 (un h)),(fun h=>J.f14 (un h)),(fun h=>J.f15 (un h)),(fun h=>J.f16 (un h)),(fun h h2=>J.f17 (un h) (by rwa [upd_ne rfl] at h2)),(fun h=>by obtain ⟨g,e,c⟩:=J.f18 (un h);exact ⟨g,e,fun h2=>c (by rwa [upd_ne rfl] at h2)⟩),(fun h=>absurd (by rwa [upd_ne rfl] at h:L 20=true) (by rw [hAs];simp)),(fun h=>J.nA (un h)),(fun _=>B4),J.bel,(fun h=>absurd (by rwa [upd_ne rfl] at h:L 19=true) (by rw [hAp];simp))⟩⟩
   ·skip
    have hAp:L 19=false:=(hcl 19 18 (by kernel_rfl) (hcl 18 17 (by kernel_rfl) (hcl 17 7 (by kernel_rfl) (hcl 7 6 (by kernel_rfl) (hcl 6 5 (by kernel_rfl) (hcl 5 4 (by kernel_rfl) hLi))))))
    have hAs:L 20=false:=(hcl 20 19 (by kernel_rfl) (hcl 19 18 (by kernel_rfl) (hcl 18 17 (by kernel_rfl) (hcl 17 7 (by kernel_rfl) (hcl 7 6 (by kernel_rfl) (hcl 6 5 (by kernel_rfl) (hcl 5 4 (by kernel_rfl) hLi)))))))
    have B4:=J.b4 hAp
    go_simp
    exact hK _ _ ⟨_,_,_,_,_,_,_,_,_,_,_,_,_,_,_,_,_,_,_,_,_,rfl,⟨(fun h=>J.f0 (un h)),(fun h=>J.f1 (un h)),(fun h=>J.f2 (un h)),(fun h=>J.f3 (un h)),(fun _=>rfl),(fun h=>J.f5 (un h)),(fun h=>J.f6 (un h)),(fun h=>J.f7 (un h)),(fun h=>J.f8 (un h)),(fun h=>J.f9 (un h)),(fun h=>J.f10 (un h)),(fun h=>J.f11 (un h)),(fun h=>J.f12 (un h)),(fun h=>J.f13 (un h)),(fun h=>J.f14 (un h)),(fun h=>J.f15 (un h)),(fun h=>J.f16 (un h)),(fun h h2=>J.f17 (un h) (by rwa [upd_ne rfl] at h2)),(fun h=>by obtain ⟨g,e,c⟩:=J.f18 (un h);exact ⟨g,e,fun h2=>c (by rwa [upd_ne rfl] at h2)⟩),(fun h=>absurd (by rwa [upd_ne rfl] at h:L 20=true) (by rw [hAs];simp)),(fun h=>J.nA (un h)),(fun _=>B4),J.bel,(fun h=>absurd (by rwa [upd_ne rfl] at h:L 19=true) (by rw [hAp];simp))⟩⟩
   ·skip
    have hAp:L 19=false:=(hcl 19 18 (by kernel_rfl) (hcl 18 17 (by kernel_rfl) (hcl 17 7 (by kernel_rfl) (hcl 7 6 (by kernel_rfl) (hcl 6 5 (by kernel_rfl) hLi)))))
    have hAs:L 20=false:=(hcl 20 19 (by kernel_rfl) (hcl 19 18 (by kernel_rfl) (hcl 18 17 (by kernel_rfl) (hcl 17 7 (by kernel_rfl) (hcl 7 6 (by kernel_rfl) (hcl 6 5 (by kernel_rfl) hLi))))))
    have B4:=J.b4 hAp
    obtain rfl:=J.f3 (haft ⟨3,.data⟩ (by simp) rfl)
    obtain rfl:=J.f4 (haft ⟨4,.data⟩ (by simp) rfl)
    go_simp
    exact hK _ _ ⟨_,_,_,_,_,_,_,_,_,_,_,_,_,_,_,_,_,_,_,_,_,rfl,⟨(fun h=>J.f0 (un h)),(fun h=>J.f1 (un h)),(fun h=>J.f2 (un h)),(fun h=>J.f3 (un h)),(fun h=>J.f4 (un h)),(fun _=>rfl),(fun h=>J.f6 (un h)),(fun h=>J.f7 (un h)),(fun h=>J.f8 (un h)),(fun h=>J.f9 (un h)),(fun h=>J.f10 (un h)),(fun h=>J.f11 (un h)),(fun h=>J.f12 (un h)),(fun h=>J.f13 (un h)),(fun h=>J.f14 (un h)),(fun h=>J.f15 (un h)),(fun h=>J.f16 (un h)),(fun h h2=>J.f17 (un h) (by rwa [upd_ne rfl] at h2)),(fun h=>by obtain ⟨g,e,c⟩:=J.f18 (un h);exact ⟨g,e,fun h2=>c (by rwa [upd_ne rfl] at h2)⟩),(fun h=>absurd (by rwa [upd_ne rfl] at h:L 20=true) (by rw [hAs];simp)),(fun h=>J.nA (un h)),(fun _=>B4),J.bel,(fun h=>absurd (by rwa [upd_ne rfl] at h:L 19=true) (by rw [hAp];simp))⟩⟩
   ·skip
    have hAp:L 19=false:=(hcl 19 18 (by kernel_rfl) (hcl 18 17 (by kernel_rfl) (hcl 17 7 (by kernel_rfl) (hcl 7 6 (by kernel_rfl) hLi))))
    have hAs:L 20=false:=(hcl 20 19 (by kernel_rfl) (hcl 19 18 (by kernel_rfl) (hcl 18 17 (by kernel_rfl) (hcl 17 7 (by kernel_rfl) (hcl 7 6 (by kernel_rfl) hLi)))))
    have B4:=J.b4 hAp
    have q0:=(B4.cell (p:=⟨b,off+k * 5,none⟩) hbl).trans x0
    have q1:=(B4.cell (p:=⟨b,off+k * 5+1,none⟩) hbl).trans x1
    have q2:=(B4.cell (p:=⟨b,off+k * 5+2,none⟩) hbl).trans x2
    have q3:=(B4.cell (p:=⟨b,off+k * 5+3,none⟩) hbl).trans x3
    have q4:=(B4.cell (p:=⟨b,off+k * 5+4,none⟩) hbl).trans x4
    obtain rfl:=J.f5 (haft ⟨5,.data⟩ (by simp) rfl)
    go_simp
    exact hK _ _ ⟨_,_,_,_,_,_,_,_,_,_,_,_,_,_,_,_,_,_,_,_,_,rfl,⟨(fun h=>J.f0 (un h)),(fun h=>J.f1 (un h)),(fun h=>J.f2 (un h)),(fun h=>J.f3 (un h)),(fun h=>J.f4 (un h)),(fun h=>J.f5 (un h)),(fun _=>rfl),(fun h=>J.f7 (un h)),(fun h=>J.f8 (un h)),(fun h=>J.f9 (un h)),(fun h=>J.f10 (un h)),(fun h=>J.f11 (un h)),(fun h=>J.f12 (un h)),(fun h=>J.f13 (un h)),(fun h=>J.f14 (un h)),(fun h=>J.f15 (un h)),(fun h=>J.f16 (un h)),(fun h h2=>J.f17 (un h) (by rwa [upd_ne rfl] at h2)),(fun h=>by obtain ⟨g,e,c⟩:=J.f18 (un h);exact ⟨g,e,fun h2=>c (by rwa [upd_ne rfl] at h2)⟩),(fun h=>absurd (by rwa [upd_ne rfl] at h:L 20=true) (by rw [hAs];simp)),(fun h=>J.nA (un h)),(fun _=>B4),J.bel,(fun h=>absurd (by rwa [upd_ne rfl] at h:L 19=true) (by rw [hAp];simp))⟩⟩
   ·skip
    have hAp:L 19=false:=(hcl 19 18 (by kernel_rfl) (hcl 18 17 (by kernel_rfl) (hcl 17 7 (by kernel_rfl) hLi)))
    have hAs:L 20=false:=(hcl 20 19 (by kernel_rfl) (hcl 19 18 (by kernel_rfl) (hcl 18 17 (by kernel_rfl) (hcl 17 7 (by kernel_rfl) hLi))))
    have B4:=J.b4 hAp
    obtain rfl:=J.f1 (haft ⟨1,.data⟩ (by simp) rfl)
    obtain rfl:=J.f6 (haft ⟨6,.data⟩ (by simp) rfl)
    go_simp
    go_wp2_with (go_at_call 98;refine (KT.out W B4).mono ?_;rintro e WN ⟨rfl,_,hb⟩)
    exact ⟨_,_,_,_,_,_,_,_,_,_,_,_,_,_,_,_,_,_,_,_,_,rfl,⟨(fun h=>J.f0 (un h)),(fun h=>J.f1 (un h)),(fun h=>J.f2 (un h)),(fun h=>J.f3 (un h)),(fun h=>J.f4 (un h)),(fun h=>J.f5 (un h)),(fun h=>J.f6 (un h)),(fun _=>rfl),(fun h=>J.f8 (un h)),(fun h=>J.f9 (un h)),(fun h=>J.f10 (un h)),(fun h=>J.f11 (un h)),(fun h=>J.f12 (un h)),(fun h=>J.f13 (un h)),(fun h=>J.f14 (un h)),(fun h=>J.f15 (un h)),(fun h=>J.f16 (un h)),(fun h h2=>(J.f17 (un h) (by rwa [upd_ne rfl] at h2)).below hb (Nat.le_refl _)),(fun h=>by obtain ⟨g,e,c⟩:=J.f18 (un h);exact ⟨g,e,fun h2=>(hb.cell (World.block_lt_of_cell? _ _ (c (by rwa [upd_ne rfl] at h2)))).trans (c (by rwa [upd_ne rfl] at h2))⟩),(fun h=>absurd (by rwa [upd_ne rfl] at h:L 20=true) (by rw [hAs];simp)),(fun h=>J.nA (un h)),(fun _=>k_trans B4 hb),k_trans J.bel hb,(fun h=>absurd (by rwa [upd_ne rfl] at h:L 19=true) (by rw [hAp];simp))⟩⟩
   ·skip
    have hAp:L 19=false:=(hcl 19 18 (by kernel_rfl) (hcl 18 17 (by kernel_rfl) (hcl 17 16 (by kernel_rfl) (hcl 16 8 (by kernel_rfl) hLi))))
    have hAs:L 20=false:=(hcl 20 19 (by kernel_rfl) (hcl 19 18 (by kernel_rfl) (hcl 18 17 (by kernel_rfl) (hcl 17 16 (by kernel_rfl) (hcl 16 8 (by kernel_rfl) hLi)))))
    have B4:=J.b4 hAp
    go_simp
    exact hK _ _ ⟨_,_,_,_,_,_,_,_,_,_,_,_,_,_,_,_,_,_,_,_,_,rfl,⟨(fun h=>J.f0 (un h)),(fun h=>J.f1 (un h)),(fun h=>J.f2 (un h)),(fun h=>J.f3 (un h)),(fun h=>J.f4 (un h)),(fun h=>J.f5 (un h)),(fun h=>J.f6 (un h)),(fun h=>J.f7 (un h)),(fun _=>rfl),(fun h=>J.f9 (un h)),(fun h=>J.f10 (un h)),(fun h=>J.f11 (un h)),(fun h=>J.f12 (un h)),(fun h=>J.f13 (un h)),(fun h=>J.f14 (un h)),(fun h=>J.f15 (un h)),(fun h=>J.f16 (un h)),(fun h h2=>J.f17 (un h) (by rwa [upd_ne rfl] at h2)),(fun h=>by obtain ⟨g,e,c⟩:=J.f18 (un h);exact ⟨g,e,fun h2=>c (by rwa [upd_ne rfl] at h2)⟩),(fun h=>absurd (by rwa [upd_ne rfl] at h:L 20=true) (by rw [hAs];simp)),(fun h=>J.nA (un h)),(fun _=>B4),J.bel,(fun h=>absurd (by rwa [upd_ne rfl] at h:L 19=true) (by rw [hAp];simp))⟩⟩
   ·skip
    have hAp:L 19=false:=(hcl 19 18 (by kernel_rfl) (hcl 18 17 (by kernel_rfl) (hcl 17 16 (by kernel_rfl) (hcl 16 10 (by kernel_rfl) (hcl 10 9 (by kernel_rfl) hLi)))))
    have hAs:L 20=false:=(hcl 20 19 (by kernel_rfl) (hcl 19 18 (by kernel_rfl) (hcl 18 17 (by kernel_rfl) (hcl 17 16 (by kernel_rfl) (hcl 16 10 (by kernel_rfl) (hcl 10 9 (by kernel_rfl) hLi))))))
    have B4:=J.b4 hAp
    go_simp
    exact hK _ _ ⟨_,_,_,_,_,_,_,_,_,_,_,_,_,_,_,_,_,_,_,_,_,rfl,⟨(fun h=>J.f0 (un h)),(fun h=>J.f1 (un h)),(fun h=>J.f2 (un h)),(fun h=>J.f3 (un h)),(fun h=>J.f4 (un h)),(fun h=>J.f5 (un h)),(fun h=>J.f6 (un h)),(fun h=>J.f7 (un h)),(fun h=>J.f8 (un h)),(fun _=>rfl),(fun h=>J.f10 (un h)),(fun h=>J.f11 (un h)),(fun h=>J.f12 (un h)),(fun h=>J.f13 (un h)),(fun h=>J.f14 (un h)),(fun h=>J.f15 (un h)),(fun h=>J.f16 (un h)),(fun h h2=>J.f17 (un h) (by rwa [upd_ne rfl] at h2)),(fun h=>by obtain ⟨g,e,c⟩:=J.f18 (un h);exact ⟨g,e,fun h2=>c (by rwa [upd_ne rfl] at h2)⟩),(fun h=>absurd (by rwa [upd_ne rfl] at h:L 20=true) (by rw [hAs];simp)),(fun h=>J.nA (un h)),(fun _=>B4),J.bel,(fun h=>absurd (by rwa [upd_ne rfl] at h:L 19=true) (by rw [hAp];simp))⟩⟩
   ·skip
    have hAp:L 19=false:=(hcl 19 18 (by kernel_rfl) (hcl 18 17 (by kernel_rfl) (hcl 17 16 (by kernel_rfl) (hcl 16 10 (by kernel_rfl) hLi))))
    have hAs:L 20=false:=(hcl 20 19 (by kernel_rfl) (hcl 19 18 (by kernel_rfl) (hcl 18 17 (by kernel_rfl) (hcl 17 16 (by kernel_rfl) (hcl 16 10 (by kernel_rfl) hLi)))))
    have B4:=J.b4 hAp
    obtain ⟨q0,q1,q2,q3,q4⟩:=fiveO ((B4.block _ hlt0).trans HX.out)
    have hl:=Nat.lt_of_lt_of_le hlt0 B4.size
    obtain rfl:=J.f9 (haft ⟨9,.data⟩ (by simp) rfl)
    go_simp
    exact hK _ _ ⟨_,_,_,_,_,_,_,_,_,_,_,_,_,_,_,_,_,_,_,_,_,rfl,⟨(fun h=>J.f0 (un h)),(fun h=>J.f1 (un h)),(fun h=>J.f2 (un h)),(fun h=>J.f3 (un h)),(fun h=>J.f4 (un h)),(fun h=>J.f5 (un h)),(fun h=>J.f6 (un h)),(fun h=>J.f7 (un h)),(fun h=>J.f8 (un h)),(fun h=>J.f9 (un h)),(fun _=>rfl),(fun h=>J.f11 (un h)),(fun h=>J.f12 (un h)),(fun h=>J.f13 (un h)),(fun h=>J.f14 (un h)),(fun h=>J.f15 (un h)),(fun h=>J.f16 (un h)),(fun h h2=>J.f17 (un h) (by rwa [upd_ne rfl] at h2)),(fun h=>by obtain ⟨g,e,c⟩:=J.f18 (un h);exact ⟨g,e,fun h2=>c (by rwa [upd_ne rfl] at h2)⟩),(fun h=>absurd (by rwa [upd_ne rfl] at h:L 20=true) (by rw [hAs];simp)),(fun h=>J.nA (un h)),(fun _=>B4),J.bel,(fun h=>absurd (by rwa [upd_ne rfl] at h:L 19=true) (by rw [hAp];simp))⟩⟩
   ·skip
    have hAp:L 19=false:=(hcl 19 18 (by kernel_rfl) (hcl 18 17 (by kernel_rfl) (hcl 17 16 (by kernel_rfl) (hcl 16 15 (by kernel_rfl) (hcl 15 14 (by kernel_rfl) (hcl 14 12 (by kernel_rfl) (hcl 12 11 (by kernel_rfl) hLi)))))))
    have hAs:L 20=false:=(hcl 20 19 (by kernel_rfl) (hcl 19 18 (by kernel_rfl) (hcl 18 17 (by kernel_rfl) (hcl 17 16 (by kernel_rfl) (hcl 16 15 (by kernel_rfl) (hcl 15 14 (by kernel_rfl) (hcl 14 12 (by kernel_rfl) (hcl 12 11 (by kernel_rfl) hLi))))))))
    have B4:=J.b4 hAp
    go_simp
    exact hK _ _ ⟨_,_,_,_,_,_,_,_,_,_,_,_,_,_,_,_,_,_,_,_,_,rfl,⟨(fun h=>J.f0 (un h)),(fun h=>J.f1 (un h)),(fun h=>J.f2 (un h)),(fun h=>J.f3 (un h)),(fun h=>J.f4 (un h)),(fun h=>J.f5 (un h)),(fun h=>J.f6 (un h)),(fun h=>J.f7 (un h)),(fun h=>J.f8 (un h)),(fun h=>J.f9 (un h)),(fun h=>J.f10 (un h)),(fun _=>rfl),(fun h=>J.f12 (un h)),(fun h=>J.f13 (un h)),(fun h=>J.f14 (un h)),(fun h=>J.f15 (un h)),(fun h=>J.f16 (un h)),(fun h h2=>J.f17 (un h) (by rwa [upd_ne rfl] at h2)),(fun h=>by obtain ⟨g,e,c⟩:=J.f18 (un h);exact ⟨g,e,fun h2=>c (by rwa [upd_ne rfl] at h2)⟩),(fun h=>absurd (by rwa [upd_ne rfl] at h:L 20=true) (by rw [hAs];simp)),(fun h=>J.nA (un h)),(fun _=>B4),J.bel,(fun h=>absurd (by rwa [upd_ne rfl] at h:L 19=true) (by rw [hAp];simp))⟩⟩
   ·skip
    have hAp:L 19=false:=(hcl 19 18 (by kernel_rfl) (hcl 18 17 (by kernel_rfl) (hcl 17 16 (by kernel_rfl) (hcl 16 15 (by kernel_rfl) (hcl 15 14 (by kernel_rfl) (hcl 14 12 (by kernel_rfl) hLi))))))
    have hAs:L 20=false:=(hcl 20 19 (by kernel_rfl) (hcl 19 18 (by kernel_rfl) (hcl 18 17 (by kernel_rfl) (hcl 17 16 (by kernel_rfl) (hcl 16 15 (by kernel_rfl) (hcl 15 14 (by kernel_rfl) (hcl 14 12 (by kernel_rfl) hLi)))))))
    have B4:=J.b4 hAp
    obtain ⟨q0,q1,q2⟩:=threeO ((B4.block _ hlg).trans HY.out)
    have hl:=Nat.lt_of_lt_of_le hlg B4.size
    obtain rfl:=J.f11 (haft ⟨11,.data⟩ (by simp) rfl)
    go_simp
    exact hK _ _ ⟨_,_,_,_,_,_,_,_,_,_,_,_,_,_,_,_,_,_,_,_,_,rfl,⟨(fun h=>J.f0 (un h)),(fun h=>J.f1 (un h)),(fun h=>J.f2 (un h)),(fun h=>J.f3 (un h)),(fun h=>J.f4 (un h)),(fun h=>J.f5 (un h)),(fun h=>J.f6 (un h)),(fun h=>J.f7 (un h)),(fun h=>J.f8 (un h)),(fun h=>J.f9 (un h)),(fun h=>J.f10 (un h)),(fun h=>J.f11 (un h)),(fun _=>rfl),(fun h=>J.f13 (un h)),(fun h=>J.f14 (un h)),(fun h=>J.f15 (un h)),(fun h=>J.f16 (un h)),(fun h h2=>J.f17 (un h) (by rwa [upd_ne rfl] at h2)),(fun h=>by obtain ⟨g,e,c⟩:=J.f18 (un h);exact ⟨g,e,fun h2=>c (by rwa [upd_ne rfl] at h2)⟩),(fun h=>absurd (by rwa [upd_ne rfl] at h:L 20=true) (by rw [hAs];simp)),(fun h=>J.nA (un h)),(fun _=>B4),J.bel,(fun h=>absurd (by rwa [upd_ne rfl] at h:L 19=true) (by rw [hAp];simp))⟩⟩
   ·skip
    have hAp:L 19=false:=(hcl 19 18 (by kernel_rfl) (hcl 18 17 (by kernel_rfl) (hcl 17 16 (by kernel_rfl) (hcl 16 15 (by kernel_rfl) (hcl 15 14 (by kernel_rfl) (hcl 14 13 (by kernel_rfl) hLi))))))
    have hAs:L 20=false:=(hcl 20 19 (by kernel_rfl) (hcl 19 18 (by kernel_rfl) (hcl 18 17 (by kernel_rfl) (hcl 17 16 (by kernel_rfl) (hcl 16 15 (by kernel_rfl) (hcl 15 14 (by kernel_rfl) (hcl 14 13 (by kernel_rfl) hLi)))))))
    have B4:=J.b4 hAp
    go_simp
    exact hK _ _ ⟨_,_,_,_,_,_,_,_,_,_,_,_,_,_,_,_,_,_,_,_,_,rfl,⟨(fun h=>J.f0 (un h)),(fun h=>J.f1 (un h)),(fun h=>J.f2 (un h)),(fun h=>J.f3 (un h)),(fun h=>J.f4 (un h)),(fun h=>J.f5 (un h)),(fun h=>J.f6 (un h)),(fun h=>J.f7 (un h)),(fun h=>J.f8 (un h)),(fun h=>J.f9 (un h)),(fun h=>J.f10 (un h)),(fun h=>J.f11 (un h)),(fun h=>J.f12 (un h)),(fun _=>rfl),(fun h=>J.f14 (un h)),(fun h=>J.f15 (un h)),(fun h=>J.f16 (un h)),(fun h h2=>J.f17 (un h) (by rwa [upd_ne rfl] at h2)),(fun h=>by obtain ⟨g,e,c⟩:=J.f18 (un h);exact ⟨g,e,fun h2=>c (by rwa [upd_ne rfl] at h2)⟩),(fun h=>absurd (by rwa [upd_ne rfl] at h:L 20=true) (by rw [hAs];simp)),(fun h=>J.nA (un h)),(fun _=>B4),J.bel,(fun h=>absurd (by rwa [upd_ne rfl] at h:L 19=true) (by rw [hAp];simp))⟩⟩
   ·skip
    have hAp:L 19=false:=(hcl 19 18 (by kernel_rfl) (hcl 18 17 (by kernel_rfl) (hcl 17 16 (by kernel_rfl) (hcl 16 15 (by kernel_rfl) (hcl 15 14 (by kernel_rfl) hLi)))))
    have hAs:L 20=false:=(hcl 20 19 (by kernel_rfl) (hcl 19 18 (by kernel_rfl) (hcl 18 17 (by kernel_rfl) (hcl 17 16 (by kernel_rfl) (hcl 16 15 (by kernel_rfl) (hcl 15 14 (by kernel_rfl) hLi))))))
    have B4:=J.b4 hAp
    obtain rfl:=J.f12 (haft ⟨12,.data⟩ (by simp) rfl)
    obtain rfl:=J.f13 (haft ⟨13,.data⟩ (by simp) rfl)
    go_simp
    exact hK _ _ ⟨_,_,_,_,_,_,_,_,_,_,_,_,_,_,_,_,_,_,_,_,_,rfl,⟨(fun h=>J.f0 (un h)),(fun h=>J.f1 (un h)),(fun h=>J.f2 (un h)),(fun h=>J.f3 (un h)),(fun h=>J.f4 (un h)),(fun h=>J.f5 (un h)),(fun h=>J.f6 (un h)),(fun h=>J.f7 (un h)),(fun h=>J.f8 (un h)),(fun h=>J.f9 (un h)),(fun h=>J.f10 (un h)),(fun h=>J.f11 (un h)),(fun h=>J.f12 (un h)),(fun h=>J.f13 (un h)),(fun _=>rfl),(fun h=>J.f15 (un h)),(fun h=>J.f16 (un h)),(fun h h2=>J.f17 (un h) (by rwa [upd_ne rfl] at h2)),(fun h=>by obtain ⟨g,e,c⟩:=J.f18 (un h);exact ⟨g,e,fun h2=>c (by rwa [upd_ne rfl] at h2)⟩),(fun h=>absurd (by rwa [upd_ne rfl] at h:L 20=true) (by rw [hAs];simp)),(fun h=>J.nA (un h)),(fun _=>B4),J.bel,(fun h=>absurd (by rwa [upd_ne rfl] at h:L 19=true) (by rw [hAp];simp))⟩⟩
   ·skip
    have hAp:L 19=false:=(hcl 19 18 (by kernel_rfl) (hcl 18 17 (by kernel_rfl) (hcl 17 16 (by kernel_rfl) (hcl 16 15 (by kernel_rfl) hLi))))
    have hAs:L 20=false:=(hcl 20 19 (by kernel_rfl) (hcl 19 18 (by kernel_rfl) (hcl 18 17 (by kernel_rfl) (hcl 17 16 (by kernel_rfl) (hcl 16 15 (by kernel_rfl) hLi)))))
    have B4:=J.b4 hAp
    have q0:=(B4.cell (p:=⟨b,off+k * 5,none⟩) hbl).trans x0
    have q1:=(B4.cell (p:=⟨b,off+k * 5+1,none⟩) hbl).trans x1
    have q2:=(B4.cell (p:=⟨b,off+k * 5+2,none⟩) hbl).trans x2
    have q3:=(B4.cell (p:=⟨b,off+k * 5+3,none⟩) hbl).trans x3
    have q4:=(B4.cell (p:=⟨b,off+k * 5+4,none⟩) hbl).trans x4
    obtain rfl:=J.f14 (haft ⟨14,.data⟩ (by simp) rfl)
    go_simp
    exact hK _ _ ⟨_,_,_,_,_,_,_,_,_,_,_,_,_,_,_,_,_,_,_,_,_,rfl,⟨(fun h=>J.f0 (un h)),(fun h=>J.f1 (un h)),(fun h=>J.f2 (un h)),(fun h=>J.f3 (un h)),(fun h=>J.f4 (un h)),(fun h=>J.f5 (un h)),(fun h=>J.f6 (un h)),(fun h=>J.f7 (un h)),(fun h=>J.f8 (un h)),(fun h=>J.f9 (un h)),(fun h=>J.f10 (un h)),(fun h=>J.f11 (un h)),(fun h=>J.f12 (un h)),(fun h=>J.f13 (un h)),(fun h=>J.f14 (un h)),(fun _=>rfl),(fun h=>J.f16 (un h)),(fun h h2=>J.f17 (un h) (by rwa [upd_ne rfl] at h2)),(fun h=>by obtain ⟨g,e,c⟩:=J.f18 (un h);exact ⟨g,e,fun h2=>c (by rwa [upd_ne rfl] at h2)⟩),(fun h=>absurd (by rwa [upd_ne rfl] at h:L 20=true) (by rw [hAs];simp)),(fun h=>J.nA (un h)),(fun _=>B4),J.bel,(fun h=>absurd (by rwa [upd_ne rfl] at h:L 19=true) (by rw [hAp];simp))⟩⟩
   ·skip
    have hAp:L 19=false:=(hcl 19 18 (by kernel_rfl) (hcl 18 17 (by kernel_rfl) (hcl 17 16 (by kernel_rfl) hLi)))
    have hAs:L 20=false:=(hcl 20 19 (by kernel_rfl) (hcl 19 18 (by kernel_rfl) (hcl 18 17 (by kernel_rfl) (hcl 17 16 (by kernel_rfl) hLi))))
    have B4:=J.b4 hAp
    obtain rfl:=J.f8 (haft ⟨8,.data⟩ (by simp) rfl)
    obtain rfl:=J.f10 (haft ⟨10,.data⟩ (by simp) rfl)
    obtain rfl:=J.f15 (haft ⟨15,.data⟩ (by simp) rfl)
    go_simp
    go_wp2_with (go_at_call 99;refine (KW.out W B4).mono ?_;rintro e WN ⟨rfl,hb⟩)
    exact ⟨_,_,_,_,_,_,_,_,_,_,_,_,_,_,_,_,_,_,_,_,_,rfl,⟨(fun h=>J.f0 (un h)),(fun h=>J.f1 (un h)),(fun h=>J.f2 (un h)),(fun h=>J.f3 (un h)),(fun h=>J.f4 (un h)),(fun h=>J.f5 (un h)),(fun h=>J.f6 (un h)),(fun h=>J.f7 (un h)),(fun h=>J.f8 (un h)),(fun h=>J.f9 (un h)),(fun h=>J.f10 (un h)),(fun h=>J.f11 (un h)),(fun h=>J.f12 (un h)),(fun h=>J.f13 (un h)),(fun h=>J.f14 (un h)),(fun h=>J.f15 (un h)),(fun _=>rfl),(fun h h2=>(J.f17 (un h) (by rwa [upd_ne rfl] at h2)).below hb (Nat.le_refl _)),(fun h=>by obtain ⟨g,e,c⟩:=J.f18 (un h);exact ⟨g,e,fun h2=>(hb.cell (World.block_lt_of_cell? _ _ (c (by rwa [upd_ne rfl] at h2)))).trans (c (by rwa [upd_ne rfl] at h2))⟩),(fun h=>absurd (by rwa [upd_ne rfl] at h:L 20=true) (by rw [hAs];simp)),(fun h=>J.nA (un h)),(fun _=>k_trans B4 hb),k_trans J.bel hb,(fun h=>absurd (by rwa [upd_ne rfl] at h:L 19=true) (by rw [hAp];simp))⟩⟩
   ·skip
    have hAp:L 19=false:=(hcl 19 18 (by kernel_rfl) (hcl 18 17 (by kernel_rfl) hLi))
    have hAs:L 20=false:=(hcl 20 19 (by kernel_rfl) (hcl 19 18 (by kernel_rfl) (hcl 18 17 (by kernel_rfl) hLi)))
    have B4:=J.b4 hAp
    obtain rfl:=J.f7 (haft ⟨7,.data⟩ (by simp) rfl)
    obtain rfl:=J.f16 (haft ⟨16,.data⟩ (by simp) rfl)
    go_simp
    go_wp2_with (go_at_call 97;refine (KL.out W).mono ?_;rintro e WN ⟨vt,rfl,hR,hb⟩;have hR2:=hR.base (B':=W2.heap.size) (HBs.out J.bel.size);clear hR)
    exact ⟨_,_,_,_,_,_,_,_,_,_,_,_,_,_,_,_,_,_,_,_,_,rfl,⟨(fun h=>J.f0 (un h)),(fun h=>J.f1 (un h)),(fun h=>J.f2 (un h)),(fun h=>J.f3 (un h)),(fun h=>J.f4 (un h)),(fun h=>J.f5 (un h)),(fun h=>J.f6 (un h)),(fun h=>J.f7 (un h)),(fun h=>J.f8 (un h)),(fun h=>J.f9 (un h)),(fun h=>J.f10 (un h)),(fun h=>J.f11 (un h)),(fun h=>J.f12 (un h)),(fun h=>J.f13 (un h)),(fun h=>J.f14 (un h)),(fun h=>J.f15 (un h)),(fun h=>J.f16 (un h)),(fun _ _=>hR2),(fun h=>by rw [upd_ne rfl,(hcl 18 17 (by kernel_rfl) hLi)] at h;cases h),(fun h=>absurd (by rwa [upd_ne rfl] at h:L 20=true) (by rw [hAs];simp)),(fun h=>J.nA (un h)),(fun _=>k_trans B4 hb),k_trans J.bel hb,(fun h=>absurd (by rwa [upd_ne rfl] at h:L 19=true) (by rw [hAp];simp))⟩⟩
   ·skip
    have hAp:L 19=false:=(hcl 19 18 (by kernel_rfl) hLi)
    have hAs:L 20=false:=(hcl 20 19 (by kernel_rfl) (hcl 19 18 (by kernel_rfl) hLi))
    have B4:=J.b4 hAp
    obtain ⟨a9,c9,rfl⟩:=(J.f17 (haft ⟨17,.data⟩ (by simp) rfl) hAp).form
    go_simp
    exact hK _ _ ⟨_,_,_,_,_,_,_,_,_,_,_,_,_,_,_,_,_,_,_,_,_,rfl,⟨(fun h=>J.f0 (un h)),(fun h=>J.f1 (un h)),(fun h=>J.f2 (un h)),(fun h=>J.f3 (un h)),(fun h=>J.f4 (un h)),(fun h=>J.f5 (un h)),(fun h=>J.f6 (un h)),(fun h=>J.f7 (un h)),(fun h=>J.f8 (un h)),(fun h=>J.f9 (un h)),(fun h=>J.f10 (un h)),(fun h=>J.f11 (un h)),(fun h=>J.f12 (un h)),(fun h=>J.f13 (un h)),(fun h=>J.f14 (un h)),(fun h=>J.f15 (un h)),(fun h=>J.f16 (un h)),(fun h h2=>(J.f17 (un h) (by rwa [upd_ne rfl] at h2)).below (k_alloc (Below.refl _ _) _) (Nat.le_refl _)),(fun _=>⟨_,rfl,fun _=>by simp⟩),(fun h=>absurd (by rwa [upd_ne rfl] at h:L 20=true) (by rw [hAs];simp)),(fun h=>J.nA (un h)),(fun _=>k_alloc B4 _),k_alloc J.bel _,(fun h=>absurd (by rwa [upd_ne rfl] at h:L 19=true) (by rw [hAp];simp))⟩⟩
   ·skip
    have hAp:L 19=false:=hLi
    have hAs:L 20=false:=(hcl 20 19 (by kernel_rfl) hLi)
    have B4:=J.b4 hAp
    obtain rfl:=J.f0 (haft ⟨0,.data⟩ (by simp) rfl)
    obtain ⟨g,rfl,hg⟩:=J.f18 (haft ⟨18,.data⟩ (by simp) rfl)
    have hO4:=ownsRow_keptS HO.out B4
    have hT4:=J.f17 (by cases hz:L 17 with | true=>rfl | false=>have:=hcl 18 17 (by kernel_rfl) hz;rw [(haft ⟨18,.data⟩ (by simp) rfl)] at this;cases this) hAp
    rw [if_pos (by rfl)]
    refine wp_append_own _ (.tmp 17) (.tmp 35) 41 rfl W2.heap.size 51 i0 (.slice none 0 0) 1 24 Tryz.underlying41 hi0 hz0 hz1 hz2 rfl (by decide) _ _ _ rfl hO4 ⟨g,0,none⟩ 1 1 [v34] rfl rfl ?c1 ?c2 ?c3 ?c4 ?c5 ?_
    case c1 =>
     intro i u hi
     match i,hi with
     | 0,hi=>simp at hi;subst hi;simpa [Addr.add] using hg hAp
    case c2=>intro u hu;simp at hu;subst hu;obtain ⟨a9,c9,rfl⟩:=hT4.form;rfl
    case c3=>unfold maxLen;omega
    case c4=>omega
    case c5=>exact HBs.out (J.bel.size)
    intro v' w5 hown' hgrow' _
    have hB5:Below W2.heap.size W2 w5:=J.bel.grown hgrow' J.bel.size (fun q hq=>HBs2.out (hO4.lt q hq).1)
    have hR5:=((HRs.out.kept B4).grown hO4 hgrow').next (hT4.grown hO4 hgrow')
    exact hK _ _ ⟨_,_,_,_,_,_,_,_,_,_,_,_,_,_,_,_,_,_,_,_,_,rfl,⟨(fun h=>J.f0 (un h)),(fun h=>J.f1 (un h)),(fun h=>J.f2 (un h)),(fun h=>J.f3 (un h)),(fun h=>J.f4 (un h)),(fun h=>J.f5 (un h)),(fun h=>J.f6 (un h)),(fun h=>J.f7 (un h)),(fun h=>J.f8 (un h)),(fun h=>J.f9 (un h)),(fun h=>J.f10 (un h)),(fun h=>J.f11 (un h)),(fun h=>J.f12 (un h)),(fun h=>J.f13 (un h)),(fun h=>J.f14 (un h)),(fun h=>J.f15 (un h)),(fun h=>J.f16 (un h)),(fun _ h2=>by rw [upd_self] at h2;cases h2),(fun _=>⟨g,rfl,fun h2=>by rw [upd_self] at h2;cases h2⟩),(fun h=>absurd (by rwa [upd_ne rfl] at h:L 20=true) (by rw [hAs];simp)),(fun h=>J.nA (un h)),(fun h=>by rw [upd_self] at h;cases h),hB5,(fun _=>⟨by rw [List.length_append];exact hown',hR5⟩)⟩⟩
   ·skip
    go_simp
    exact hK _ _ ⟨_,_,_,_,_,_,_,_,_,_,_,_,_,_,_,_,_,_,_,_,_,rfl,⟨(fun h=>J.f0 (un h)),(fun h=>J.f1 (un h)),(fun h=>J.f2 (un h)),(fun h=>J.f3 (un h)),(fun h=>J.f4 (un h)),(fun h=>J.f5 (un h)),(fun h=>J.f6 (un h)),(fun h=>J.f7 (un h)),(fun h=>J.f8 (un h)),(fun h=>J.f9 (un h)),(fun h=>J.f10 (un h)),(fun h=>J.f11 (un h)),(fun h=>J.f12 (un h)),(fun h=>J.f13 (un h)),(fun h=>J.f14 (un h)),(fun h=>J.f15 (un h)),(fun h=>J.f16 (un h)),(fun h h2=>J.f17 (un h) (by rwa [upd_ne rfl] at h2)),(fun h=>by obtain ⟨g,e,c⟩:=J.f18 (un h);exact ⟨g,e,fun h2=>c (by rwa [upd_ne rfl] at h2)⟩),(fun _=>rfl),(fun h=>by rw [upd_self] at h;cases h),(fun h=>J.b4 (un h)),J.bel,(fun h=>J.ownA (un h))⟩⟩
end Go.Proofs.YtcbibdhlkdcmiafGreat
