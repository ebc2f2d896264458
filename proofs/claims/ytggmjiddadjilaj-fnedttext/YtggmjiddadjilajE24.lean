/-
  PROVED HERE: what the program's copyOf answers: of a table that is ok the same table, in memory of its own; else nothing and false; nothing that was in memory is turned.
-/
import Derived.Test.YtggmjiddadjilajE23
import Derived.Test.YtggmjiddadjilajE22
namespace Go.Proofs.Ytggmjiddadjilaj
open Go.RowKit

theorem ArrO.nextC {w w':World} {z:Nat} {arr:Array Value} {rs:List R} {k:Nat} (h:ArrO w z arr rs k) (hs:k * 2 < arr.size) (hz:z≤w.heap.size) (hw:Since z w w') {u:Value} (hu:OwnC w' w.heap.size u (rs.getD k dR).cells) (hwh:arr[k * 2+1]?=some (.bool (rs.getD k dR).whole)) :
  ArrO w' z (arr.setIfInBounds (k * 2) u) rs (k+1):=by
 obtain ⟨us,hl,hg,hp⟩:=h
 refine ⟨us ++ [u],by simp [hl],fun i hi=>?_,?_⟩
 ·rw [List.length_append,List.length_singleton,hl] at hi
  rcases Nat.lt_or_eq_of_le (Nat.lt_succ_iff.1 hi) with hlt | rfl
  ·obtain ⟨e1,e2,e3⟩:=hg i (by omega)
   rw [List.getElem_append_left (by omega)]
   exact ⟨(Array.getElem?_setIfInBounds_ne (by omega)).trans e1,(Array.getElem?_setIfInBounds_ne (by omega)).trans e2,row_since e3 hw⟩
  ·have e:(us ++ [u])[i]'(by simp [hl])=u:=by
    rw [List.getElem_append_right (by omega)]
    simp
   rw [e]
   exact ⟨Array.getElem?_setIfInBounds_self_of_lt hs,(Array.getElem?_setIfInBounds_ne (by omega)).trans hwh,row_base hu hz⟩
 ·rw [List.pairwise_append]
  refine ⟨hp,List.pairwise_singleton _ _,fun p hpm q hq=>?_⟩
  rw [List.mem_singleton] at hq
  subst hq
  obtain ⟨i,hi,rfl⟩:=List.mem_iff_getElem.1 hpm
  obtain ⟨_,_,e3⟩:=hg i hi
  cases hb:us[i].ownBlock with
  | none=>exact .inl rfl
  | some b =>
   refine .inr (fun he=>?_)
   have l1:=row_lt e3 hb
   have l2:=row_lt hu he.symm
   omega
theorem ArrO.allC {w:World} {z cap:Nat} {arr:Array Value} {rs:List R} (h:ArrO w (z+1) arr rs rs.length) (hs:arr.size=cap * 2) (hg:w.heap[z]?=some (.cells arr 52)) (hn:rs.length≤cap) (hm:cap≤maxLen) :
  ∃ ur:List (Value × R),ur.map (·.2)=rs∧OwnR w z (.slice (some ⟨z,0,none⟩) rs.length cap) ur:=by
 obtain ⟨us,hl,hgt,hp⟩:=h
 have hzl:(us.zip rs).length=rs.length:=by rw [List.length_zip,hl,Nat.min_self]
 refine ⟨us.zip rs,List.map_snd_zip (by omega),⟨?_,fun p hpm=>?_,?_⟩⟩
 ·refine ⟨flat_len rowVs 2 (fun _=>rfl) _,.inr ⟨z,cap,arr,by rw [hzl],Nat.le_refl _,hg,by rw [hzl];exact hn,hm,hs,?_⟩⟩
  refine flat_take rowVs 2 (fun _=>rfl) (us.zip rs) arr (by rw [hs,hzl];omega) (fun i hi j hj=>?_)
  rw [hzl] at hi
  obtain ⟨e1,e2,_⟩:=hgt i (by omega)
  rw [getD_get dR hi] at e2
  rw [List.getElem_zip]
  match j,hj with
  | 0,_=>exact e1
  | 1,_=>exact e2
 ·obtain ⟨i,hi,rfl⟩:=List.mem_iff_getElem.1 hpm
  rw [hzl] at hi
  obtain ⟨_,_,e3⟩:=hgt i (by omega)
  rw [getD_get dR hi] at e3
  rw [List.getElem_zip]
  exact row_base e3 (Nat.le_succ _)
 ·rw [List.pairwise_iff_getElem] at hp ⊢
  intro i j hi hj hij
  rw [List.getElem_zip,List.getElem_zip]
  exact hp i j (by omega) (by omega) hij
theorem rowsV_whole {us:List Value} {rs:List R} (hu:us.length=rs.length) {arr:Array Value} (h:arr.toList.take (rs.length * 2)=rowsV us rs):∀ i,i < rs.length→arr[i * 2+1]?=some (.bool (rs.getD i dR).whole):=by
 intro i hi
 have hz:(us.zip rs).length=rs.length:=by rw [List.length_zip,hu,Nat.min_self]
 have e:=flat_get rowVs 2 (fun _=>rfl) (us.zip rs) i (by omega) 1 (by omega)
 rw [← rowsV,← h,List.getElem?_take_of_lt (by omega),Array.getElem?_toList,List.getElem_zip] at e
 rw [getD_get dR hi,e]
 rfl
structure CpJ (xb tb g bq oq k n c2 cr m cu:Nat) (au:Option Addr) (cs:List C) (W3:World) (L:Nat→Bool) (W:World) (v25 v26 v27 v28 v29 v30 v31 v32 v33 v34 v35 v36:Value):Prop where
 f0:L 0=true→v25=.pointer (some ⟨xb,3,none⟩)
 f1:L 1=true→v26=.slice (some ⟨g,0,none⟩) n c2
 f2:L 2=true→v27=.int .i64 k
 f3:L 3=true→v28=.pointer (some ⟨tb,3,none⟩)
 f4:L 4=true→v29=.slice (some ⟨bq,oq,none⟩) n cr
 f5:L 5=true→v30=.int .i64 k
 f6:L 6=true→v31=.pointer (some ⟨bq,oq+k * 2,none⟩)
 f7:L 7=true→v32=.pointer (some ⟨bq,oq+k * 2,none⟩)
 f8:L 8=true→v33=.slice au m cu
 f9:L 9=true→L 12=false→∃ a c,v34=.slice a m c∧OwnC W W3.heap.size v34 cs
 f10:L 10=true→v35=.pointer (some ⟨g,k * 2,none⟩)
 f11:L 11=true→v36=.pointer (some ⟨g,k * 2,none⟩)
 b:L 12=false→Below W3.heap.size W3 W
 fin:L 12=true→∃ u W9,OwnC W9 W3.heap.size u cs∧Below W3.heap.size W3 W9∧W=W9.setCell ⟨g,k * 2,none⟩ u

set_option maxRecDepth 100000 in
set_option maxHeartbeats 4000000 in
theorem implCopyOf (ac ar:Option Addr) (cc cr:Nat) (t:T) (w:World) {z:Nat} (hc:ColsAt w z (.slice ac t.cols.length cc) t.cols) (hr:RowsAt w z (.slice ar t.rows.length cr) t.rows) :
  Calls Try.prog 46 #[.agg #[.slice ac t.cols.length cc,.int .i64 t.head,.int .i64 t.foot,.slice ar t.rows.length cr,.int .i64 t.gap]] w fun e w'=>(tblB t=false∧e=.returned (.tuple #[.agg #[.slice none 0 0,.int .i64 0,.int .i64 0,.slice none 0 0,.int .i64 0],.bool false])∨tblB t=true∧∃ a1 c1 a2 c2,e=.returned (.tuple #[.agg #[.slice a1 t.cols.length c1,.int .i64 t.head,.int .i64 t.foot,.slice a2 t.rows.length c2,.int .i64 t.gap],.bool true])∧OwnT w' w.heap.size (.slice a1 t.cols.length c1) (.slice a2 t.rows.length c2) t)∧Below w.heap.size w w':=by
 have hmx:Try.prog.follows .mixedOrders=true:=by kernel_rfl
 obtain ⟨W0,hW0⟩:∃ W0,(w.alloc (.cells #[.slice ac t.cols.length cc,.int .i64 t.head,.int .i64 t.foot,.slice ar t.rows.length cr,.int .i64 t.gap] 37)).alloc (.cells #[.slice none 0 0,.int .i64 0,.int .i64 0,.slice none 0 0,.int .i64 0] 37)=W0:=⟨_,rfl⟩
 have K0:Below w.heap.size w W0:=by rw [← hW0];exact k_alloc (k_alloc (Below.refl _ _) _) _
 have T0:W0.heap[w.heap.size]?=some (.cells #[.slice ac t.cols.length cc,.int .i64 t.head,.int .i64 t.foot,.slice ar t.rows.length cr,.int .i64 t.gap] 37):=by rw [← hW0];exact (Below.heap_alloc _ _ _ (by simp)).trans (newestB _ _)
 have R0:W0.heap[w.heap.size+1]?=some (.cells #[.slice none 0 0,.int .i64 0,.int .i64 0,.slice none 0 0,.int .i64 0] 37):=by rw [← hW0];have:=newestB (w.alloc (.cells #[.slice ac t.cols.length cc,.int .i64 t.head,.int .i64 t.foot,.slice ar t.rows.length cr,.int .i64 t.gap] 37)) (.cells #[.slice none 0 0,.int .i64 0,.int .i64 0,.slice none 0 0,.int .i64 0] 37);simpa using this
 have KO:=Hid.intro (implTblOk ac ar cc cr t W0 (hc.kept K0) (hr.kept K0))
 have HCA:=Hid.intro hc
 have HRA:=Hid.intro hr
 have HK0:=Hid.intro K0
 have HT0:=Hid.intro T0
 have HR0:=Hid.intro R0
 obtain ⟨b0,b1,b2,b3,b4⟩:=fiveO T0
 clear hc hr K0 T0 R0
 cases htk:tblB t with
 | false =>
  rw [htk] at KO
  go_enter Try.func46,Try.ntmps46
  go_upto_region 1 with fail
  clear hW0
  go_wp2_with fail
  refine KO.out.mono ?_
  rintro e w1 ⟨rfl,hb1⟩
  have hR1:=(hb1.block _ (Array.getElem?_eq_some_iff.1 HR0.out).1).trans HR0.out
  have HK1:=Hid.intro (k_trans HK0.out hb1)
  obtain ⟨d0,d1,d2,d3,d4⟩:=fiveO hR1
  have fz:∀ p,w1.frozen? ⟨w.heap.size+1,p,none⟩=false:=fun p=>freeB hR1
  clear hb1 KO b0 b1 b2 b3 b4
  go_wp2
  exact bodyPost_ret (v:=.tuple #[.agg #[.slice none 0 0,.int .i64 0,.int .i64 0,.slice none 0 0,.int .i64 0],.bool false]) (by simp [results,Try.results46,go_sem,d0,d1,d2,d3,d4]) rfl ⟨.inl ⟨by first | rfl | trivial,rfl⟩,k_set (k_set (k_set (k_set (k_set HK1.out (Nat.le_succ _) _) (Nat.le_succ _) _) (Nat.le_succ _) _) (Nat.le_succ _) _) (Nat.le_succ _) _⟩
 | true =>
  rw [htk] at KO
  obtain ⟨hbc,hb1r,hb8,hcell⟩:=tbl_bounds htk
  have HCell:=Hid.intro hcell
  clear hcell
  go_enter Try.func46,Try.ntmps46
  go_upto_region 1 with fail
  clear hW0
  go_wp2_with fail
  refine KO.out.mono ?_
  rintro e w1 ⟨rfl,hb1⟩
  have hT1:=(hb1.block _ (Array.getElem?_eq_some_iff.1 HT0.out).1).trans HT0.out
  have hR1:=(hb1.block _ (Array.getElem?_eq_some_iff.1 HR0.out).1).trans HR0.out
  have hlt1:=(Array.getElem?_eq_some_iff.1 hT1).1
  have hlr1:=(Array.getElem?_eq_some_iff.1 hR1).1
  have HK1:=Hid.intro (k_alloc (k_trans HK0.out hb1) (.cells #[.slice ac t.cols.length cc,.int .i64 t.head,.int .i64 t.foot,.slice ar t.rows.length cr,.int .i64 t.gap] 37))
  have HT1:Hid ((w1.alloc (.cells #[.slice ac t.cols.length cc,.int .i64 t.head,.int .i64 t.foot,.slice ar t.rows.length cr,.int .i64 t.gap] 37)).heap[w.heap.size]?=some (.cells #[.slice ac t.cols.length cc,.int .i64 t.head,.int .i64 t.foot,.slice ar t.rows.length cr,.int .i64 t.gap] 37)):=(Below.heap_alloc _ _ _ hlt1).trans hT1
  have HR1:Hid ((w1.alloc (.cells #[.slice ac t.cols.length cc,.int .i64 t.head,.int .i64 t.foot,.slice ar t.rows.length cr,.int .i64 t.gap] 37)).heap[w.heap.size+1]?=some (.cells #[.slice none 0 0,.int .i64 0,.int .i64 0,.slice none 0 0,.int .i64 0] 37)):=(Below.heap_alloc _ _ _ hlr1).trans hR1
  have HX1:Hid ((w1.alloc (.cells #[.slice ac t.cols.length cc,.int .i64 t.head,.int .i64 t.foot,.slice ar t.rows.length cr,.int .i64 t.gap] 37)).heap[w1.heap.size]?=some (.cells #[.slice ac t.cols.length cc,.int .i64 t.head,.int .i64 t.foot,.slice ar t.rows.length cr,.int .i64 t.gap] 37)):=newestB _ _
  obtain ⟨b0,b1,b2,b3,b4⟩:=fiveO hT1
  have hxb:w.heap.size+1 < w1.heap.size:=hlr1
  clear hb1 KO HT0 HR0 HK0 hT1 hR1
  go_upto_region 4 with fail
  generalize w1.alloc (.cells #[.slice ac t.cols.length cc,.int .i64 t.head,.int .i64 t.foot,.slice ar t.rows.length cr,.int .i64 t.gap] 37)=W1 at HK1 HT1 HR1 HX1 ⊢
  generalize w1.heap.size=xb at HX1 hxb ⊢
  clear hlt1 hlr1 b0 b1 b2 b3 b4
  obtain ⟨b0,b1,b2,b3,b4⟩:=fiveO HT1.out
  have hlx:=(Array.getElem?_eq_some_iff.1 HX1.out).1
  have KC1:=Hid.intro (clone_cols ac cc t.cols (by omega) W1 (HCA.out.kept HK1.out))
  go_wp2_with fail
  refine KC1.out.mono ?_
  rintro e w2 ⟨a1,c1,rfl,hO2,hb2⟩
  have hX2:=(hb2.block _ hlx).trans HX1.out
  obtain ⟨x0,x1,x2,x3,x4⟩:=fiveO hX2
  have fz:∀ p,w2.frozen? ⟨xb,p,none⟩=false:=fun p=>freeB hX2
  have hlx2:=Nat.lt_of_lt_of_le hlx hb2.size
  have HO2:Hid (OwnCol (w2.setCell ⟨xb,0,none⟩ (.slice a1 t.cols.length c1)) (xb+1) (.slice a1 t.cols.length c1) t.cols):=row_since (row_base hO2 hlx) (Since.set (Since.refl _ _) (p:=⟨xb,0,none⟩) (Nat.lt_succ_self xb) _)
  have HK2:=Hid.intro (k_set (k_trans HK1.out hb2) (p:=⟨xb,0,none⟩) (by dsimp only;omega) (.slice a1 t.cols.length c1))
  have HT2:Hid ((w2.setCell ⟨xb,0,none⟩ (.slice a1 t.cols.length c1)).heap[w.heap.size]?=some (.cells #[.slice ac t.cols.length cc,.int .i64 t.head,.int .i64 t.foot,.slice ar t.rows.length cr,.int .i64 t.gap] 37)):=(Below.heap_setCell _ _ _ _ (by dsimp only;omega)).trans ((hb2.block _ (by omega)).trans HT1.out)
  have HR2:Hid ((w2.setCell ⟨xb,0,none⟩ (.slice a1 t.cols.length c1)).heap[w.heap.size+1]?=some (.cells #[.slice none 0 0,.int .i64 0,.int .i64 0,.slice none 0 0,.int .i64 0] 37)):=(Below.heap_setCell _ _ _ _ (by dsimp only;omega)).trans ((hb2.block _ (by omega)).trans HR1.out)
  have HX2:Hid ((w2.setCell ⟨xb,0,none⟩ (.slice a1 t.cols.length c1)).heap[xb]?=some (.cells #[.slice a1 t.cols.length c1,.int .i64 t.head,.int .i64 t.foot,.slice ar t.rows.length cr,.int .i64 t.gap] 37)):=setB (p:=0) hX2 (.slice a1 t.cols.length c1)
  have hs2:xb < (w2.setCell ⟨xb,0,none⟩ (.slice a1 t.cols.length c1)).heap.size:=by rw [sizeSet];exact hlx2
  clear hO2 hb2 hX2 KC1 HK1 HT1 HR1 HX1 b0 b1 b2 b3 b4
  go_upto_region 5 with fail
  generalize (w2.setCell ⟨xb,0,none⟩ (.slice a1 t.cols.length c1))=V2 at HO2 HK2 HT2 HR2 HX2 hs2 ⊢
  clear x0 x1 x2 x3 x4 fz hlx2 hlx
  obtain ⟨b0,b1,b2,b3,b4⟩:=fiveO HT2.out
  have KR1:=Hid.intro (clone_rows ar cr t.rows (by omega) V2 (HRA.out.kept HK2.out))
  go_wp2_with fail
  refine KR1.out.mono ?_
  rintro e w3 ⟨us,a2,c2,hus,rfl,hO3,hb3⟩
  rcases hO3.2 with ⟨_,hz3⟩ | ⟨g,c2',cur,e3,hg3,hcur,hn3,hm3,hz3,ht3⟩
  ·exact absurd hz3 (by omega)
  simp only [Value.slice.injEq,true_and] at e3
  obtain ⟨rfl,rfl⟩:=e3
  have hX3:=(hb3.block _ hs2).trans HX2.out
  obtain ⟨x0,x1,x2,x3,x4⟩:=fiveO hX3
  have fz:∀ p,w3.frozen? ⟨xb,p,none⟩=false:=fun p=>freeB hX3
  have hlx3:=Nat.lt_of_lt_of_le hs2 hb3.size
  have hgx:xb < g:=Nat.lt_of_lt_of_le hs2 hg3
  have HO3:Hid (OwnCol (w3.setCell ⟨xb,3,none⟩ (.slice (some ⟨g,0,none⟩) t.rows.length c2)) (xb+1) (.slice a1 t.cols.length c1) t.cols):=row_since (row_since HO2.out (.of_below hb3)) (Since.set (Since.refl _ _) (p:=⟨xb,3,none⟩) (Nat.lt_succ_self xb) _)
  have HK3:=Hid.intro (k_set (k_trans HK2.out hb3) (p:=⟨xb,3,none⟩) (by dsimp only;omega) (.slice (some ⟨g,0,none⟩) t.rows.length c2))
  have HT3:Hid ((w3.setCell ⟨xb,3,none⟩ (.slice (some ⟨g,0,none⟩) t.rows.length c2)).heap[w.heap.size]?=some (.cells #[.slice ac t.cols.length cc,.int .i64 t.head,.int .i64 t.foot,.slice ar t.rows.length cr,.int .i64 t.gap] 37)):=(Below.heap_setCell _ _ _ _ (by dsimp only;omega)).trans ((hb3.block _ (by omega)).trans HT2.out)
  have HR3:Hid ((w3.setCell ⟨xb,3,none⟩ (.slice (some ⟨g,0,none⟩) t.rows.length c2)).heap[w.heap.size+1]?=some (.cells #[.slice none 0 0,.int .i64 0,.int .i64 0,.slice none 0 0,.int .i64 0] 37)):=(Below.heap_setCell _ _ _ _ (by dsimp only;omega)).trans ((hb3.block _ (by omega)).trans HR2.out)
  have HX3:Hid ((w3.setCell ⟨xb,3,none⟩ (.slice (some ⟨g,0,none⟩) t.rows.length c2)).heap[xb]?=some (.cells #[.slice a1 t.cols.length c1,.int .i64 t.head,.int .i64 t.foot,.slice (some ⟨g,0,none⟩) t.rows.length c2,.int .i64 t.gap] 37)):=setB (p:=3) hX3 (.slice (some ⟨g,0,none⟩) t.rows.length c2)
  have HG3:Hid ((w3.setCell ⟨xb,3,none⟩ (.slice (some ⟨g,0,none⟩) t.rows.length c2)).heap[g]?=some (.cells cur 52)):=(Below.heap_setCell _ _ _ _ (by dsimp only;omega)).trans hcur
  have HWh:=Hid.intro (rowsV_whole hus ht3)
  have hcg:∀ b,(Value.slice a1 t.cols.length c1).ownBlock=some b→b < g:=fun b e=>Nat.lt_of_lt_of_le (row_lt HO2.out e).2 hg3
  have HCG:=Hid.intro hcg
  clear hcg
  have hgl3:g < (w3.setCell ⟨xb,3,none⟩ (.slice (some ⟨g,0,none⟩) t.rows.length c2)).heap.size:=by rw [sizeSet];exact (Array.getElem?_eq_some_iff.1 hcur).1
  clear hO3 hb3 hX3 KR1 HK2 HT2 HR2 HX2 HO2 b0 b1 b2 b3 b4 ht3 hg3 hcur
  go_upto_region 6 with fail
  generalize (w3.setCell ⟨xb,3,none⟩ (.slice (some ⟨g,0,none⟩) t.rows.length c2))=V3 at HO3 HK3 HT3 HR3 HX3 HG3 hgl3 ⊢
  clear x0 x1 x2 x3 x4 fz hlx3 hs2
  obtain ⟨x0,x1,x2,x3,x4⟩:=fiveO HX3.out
  go_wp2_with fail
  clear x0 x1 x2 x3 x4
  go_loopw [22] (fun s W=>∃ (k:Nat) (arr:Array Value),s=.int .i64 k∧k≤t.rows.length∧Hid (W.heap[g]?=some (.cells arr 52))∧arr.size=c2 * 2∧Hid (ArrO W (g+1) arr t.rows k)∧Hid (∀ i,i < t.rows.length→arr[i * 2+1]?=some (.bool (t.rows.getD i dR).whole))∧Hid (Below g V3 W)) (fun s _=>t.rows.length - (intOf s).toNat)
  case atStart=>exact ⟨0,cur,rfl,Nat.zero_le _,HG3,hz3,ArrO.zero _ _ _ _,HWh,Below.refl _ _⟩
  case round =>
   obtain ⟨k,arr,rfl,hk,HG,hsz,HA,HW,HB⟩:=hrel
   have HKw:Hid (Below w.heap.size w wr):=HK3.out.trans (HB.out.mono (by omega))
   have HT:Hid (wr.heap[w.heap.size]?=some (.cells #[.slice ac t.cols.length cc,.int .i64 t.head,.int .i64 t.foot,.slice ar t.rows.length cr,.int .i64 t.gap] 37)):=(HB.out.block _ (by omega)).trans HT3.out
   have HX:Hid (wr.heap[xb]?=some (.cells #[.slice a1 t.cols.length c1,.int .i64 t.head,.int .i64 t.foot,.slice (some ⟨g,0,none⟩) t.rows.length c2,.int .i64 t.gap] 37)):=(HB.out.block _ hgx).trans HX3.out
   have hlg:=(Array.getElem?_eq_some_iff.1 HG.out).1
   have hlx:xb < wr.heap.size:=Nat.lt_trans hgx hlg
   have hlt0:w.heap.size < wr.heap.size:=by omega
   by_cases hkl:k < t.rows.length
   case neg =>
    obtain rfl:k=t.rows.length:=by omega
    have hnot:¬ ((t.rows.length:Int) < (t.rows.length:Int)):=by omega
    have HRr:Hid (wr.heap[w.heap.size+1]?=some (.cells #[.slice none 0 0,.int .i64 0,.int .i64 0,.slice none 0 0,.int .i64 0] 37)):=(HB.out.block _ (by omega)).trans HR3.out
    have HOc:Hid (OwnCol wr (xb+1) (.slice a1 t.cols.length c1) t.cols):=⟨HO3.out.1,HO3.out.2.elim Or.inl (fun ⟨g',cap,cur,e,hg',hc,q⟩=>Or.inr ⟨g',cap,cur,e,hg',(HB.out.block g' (HCG.out g' (by rw [e];rfl))).trans hc,q⟩)⟩
    obtain ⟨x0,x1,x2,x3,x4⟩:=fiveO HX.out
    obtain ⟨d0,d1,d2,d3,d4⟩:=fiveO HRr.out
    have fz:∀ p,wr.frozen? ⟨w.heap.size+1,p,none⟩=false:=fun p=>freeB HRr.out
    obtain ⟨ur,hur,hOR⟩:=HA.out.allC hsz HG.out hn3 hm3
    have HOR:=Hid.intro hOR
    have HUr:=Hid.intro hur
    clear hOR hur
    go_wp2
    exact bodyPost_ret (v:=.tuple #[.agg #[.slice a1 t.cols.length c1,.int .i64 t.head,.int .i64 t.foot,.slice (some ⟨g,0,none⟩) t.rows.length c2,.int .i64 t.gap],.bool true]) (by simp [results,Try.results46,go_sem,d0,d1,d2,d3,d4]) rfl ⟨⟨a1,c1,some ⟨g,0,none⟩,c2,rfl,⟨ur,HUr.out,row_base (row_since HOc.out (Since.set (Since.set (Since.set (Since.set (Since.set (Since.refl _ _) (p:=⟨w.heap.size+1,0,none⟩) (by dsimp only;omega) _) (p:=⟨w.heap.size+1,1,none⟩) (by dsimp only;omega) _) (p:=⟨w.heap.size+1,2,none⟩) (by dsimp only;omega) _) (p:=⟨w.heap.size+1,3,none⟩) (by dsimp only;omega) _) (p:=⟨w.heap.size+1,4,none⟩) (by dsimp only;omega) _)) (by omega),(HOR.out.since (Since.set (Since.set (Since.set (Since.set (Since.set (Since.refl _ _) (p:=⟨w.heap.size+1,0,none⟩) (by dsimp only;omega) _) (p:=⟨w.heap.size+1,1,none⟩) (by dsimp only;omega) _) (p:=⟨w.heap.size+1,2,none⟩) (by dsimp only;omega) _) (p:=⟨w.heap.size+1,3,none⟩) (by dsimp only;omega) _) (p:=⟨w.heap.size+1,4,none⟩) (by dsimp only;omega) _)).base (by omega)⟩⟩,k_set (k_set (k_set (k_set (k_set HKw.out (Nat.le_succ _) _) (Nat.le_succ _) _) (Nat.le_succ _) _) (Nat.le_succ _) _) (Nat.le_succ _) _⟩
   obtain ⟨bq,oq,cr',e',hq1,hq2,hlq,u,hx0,hx1,hx⟩:=At.get (HRA.out.kept HKw.out) hkl
   simp only [Value.slice.injEq,true_and] at e'
   obtain ⟨rfl,rfl⟩:=e'
   obtain ⟨au,cu,rfl,hul⟩:=At.form hx
   have hm5:=HCell.out k hkl
   have HQ:=Hid.intro hx0
   have KC:Hid (∀ W,Below wr.heap.size wr W→Calls Try.prog 79 #[.slice au (t.rows.getD k dR).cells.length cu] W fun e w'=>∃ a' c',e=.returned (.slice a' (t.rows.getD k dR).cells.length c')∧OwnC w' wr.heap.size (.slice a' (t.rows.getD k dR).cells.length c') (t.rows.getD k dR).cells∧Below W.heap.size W w'):=fun W hW=>(clone_cells au cu (t.rows.getD k dR).cells (by omega) W (hx.kept hW)).mono (fun e w' ⟨a',c',h1,h2,h3⟩=>⟨a',c',h1,row_base h2 hW.size,h3⟩)
   have HN:=Hid.intro (fun (w':World) (hs:Since (g+1) wr w') (u:Value) (hu:OwnC w' wr.heap.size u (t.rows.getD k dR).cells)=>HA.out.nextC (by omega) hlg hs hu (HW.out k hkl))
   have hks:k * 2 < arr.size:=by omega
   have HWn:Hid (∀ u:Value,∀ i,i < t.rows.length→(arr.setIfInBounds (k * 2) u)[i * 2+1]?=some (.bool (t.rows.getD i dR).whole)):=fun u i hi=>(Array.getElem?_setIfInBounds_ne (by omega)).trans (HW.out i hi)
   clear hx hx0 hx1 hul
   generalize hcsE:(t.rows.getD k dR).cells=cs at KC HN hm5 HQ
   clear hcsE
   generalize hmE:cs.length=m at KC hm5 HQ
   clear hmE
   unfold maxLen at hq2 hm3
   go_upto_region 9 with fail
   refine wp_region_inv2 (fun L act W=>∃ v25 v26 v27 v28 v29 v30 v31 v32 v33 v34 v35 v36:Value,act=⟨#[.agg #[.slice ac t.cols.length cc,.int .i64 t.head,.int .i64 t.foot,.slice (some ⟨bq,oq,none⟩) t.rows.length cr,.int .i64 t.gap],.pointer (some ⟨w.heap.size,0,none⟩),.pointer (some ⟨w.heap.size+1,0,none⟩),.bool false,.pointer (some ⟨xb,0,none⟩),.int .i64 k,.agg #[.slice ac t.cols.length cc,.int .i64 t.head,.int .i64 t.foot,.slice (some ⟨bq,oq,none⟩) t.rows.length cr,.int .i64 t.gap],.bool true,.bool false,undef,.agg #[.slice ac t.cols.length cc,.int .i64 t.head,.int .i64 t.foot,.slice (some ⟨bq,oq,none⟩) t.rows.length cr,.int .i64 t.gap],.pointer (some ⟨w.heap.size,0,none⟩),.slice ac t.cols.length cc,.slice a1 t.cols.length c1,.pointer (some ⟨xb,0,none⟩),.pointer (some ⟨w.heap.size,3,none⟩),.slice (some ⟨bq,oq,none⟩) t.rows.length cr,.slice (some ⟨g,0,none⟩) t.rows.length c2,.pointer (some ⟨xb,3,none⟩),.pointer (some ⟨xb,3,none⟩),.slice (some ⟨g,0,none⟩) t.rows.length c2,.int .i64 t.rows.length,.int .i64 k,.bool true,.int .i64 k,v25,v26,v27,v28,v29,v30,v31,v32,v33,v34,v35,v36,u37,undef],[]⟩∧CpJ xb w.heap.size g bq oq k t.rows.length c2 cr m cu au cs wr L W v25 v26 v27 v28 v29 v30 v31 v32 v33 v34 v35 v36) hmx (by kernel_rfl) ?hs ?hd ?h0
   case h0=>exact ⟨_,_,_,_,_,_,_,_,_,_,_,_,rfl,⟨(fun h=>by cases h),(fun h=>by cases h),(fun h=>by cases h),(fun h=>by cases h),(fun h=>by cases h),(fun h=>by cases h),(fun h=>by cases h),(fun h=>by cases h),(fun h=>by cases h),(fun h=>by cases h),(fun h=>by cases h),(fun h=>by cases h),(fun _=>k_drew (Below.refl _ _)),(fun h=>by cases h)⟩⟩
   case hd =>
    intro L act W hJ hall
    obtain ⟨v25,v26,v27,v28,v29,v30,v31,v32,v33,v34,v35,v36,ha,J⟩:=hJ
    subst ha
    obtain ⟨u,W9,hO,hB9,rfl⟩:=J.fin (hall 12 (by decide))
    clear J hall
    have B9:=(hB9.block g hlg).trans HG.out
    have HG9:=Hid.intro (setB (p:=k * 2) B9 u)
    have HA9:=Hid.intro (HN.out (W9.setCell ⟨g,k * 2,none⟩ u) (Since.set (Since.of_below hB9) (p:=⟨g,k * 2,none⟩) (Nat.lt_succ_self g) u) u (row_since hO (Since.set (Since.refl _ _) (p:=⟨g,k * 2,none⟩) hlg u)))
    have HB9:Hid (Below g V3 (W9.setCell ⟨g,k * 2,none⟩ u)):=(HB.out.trans (hB9.mono (Nat.le_of_lt hlg))).setCell (Nat.le_refl _) u
    generalize W9.setCell ⟨g,k * 2,none⟩ u=W10 at HG9 HA9 HB9 ⊢
    clear hO hB9 B9
    go_wp2
    go_roundw
    case rel=>exact ⟨k+1,arr.setIfInBounds (k * 2) u,by go_num,by omega,HG9,by rw [Array.size_setIfInBounds];exact hsz,HA9,HWn.out u,HB9⟩
    case measure=>simp [intOf];omega
   case hs =>
    intro L act W i o hJ hcl ho hLi haft K hK
    obtain ⟨v25,v26,v27,v28,v29,v30,v31,v32,v33,v34,v35,v36,ha,J⟩:=hJ
    subst ha
    have hi':i < 13:=by
     have:=(Array.getElem?_eq_some_iff.1 ho).1
     simpa using this
    rcases (by omega:i=0∨i=1∨i=2∨i=3∨i=4∨i=5∨i=6∨i=7∨i=8∨i=9∨i=10∨i=11∨i=12) with rfl | rfl | rfl | rfl | rfl | rfl | rfl | rfl | rfl | rfl | rfl | rfl | rfl
    all_goals
     simp only [List.getElem?_toArray,List.getElem?_cons_zero,List.getElem?_cons_succ,Option.some.injEq] at ho
     subst ho
     clear hi'
    ·skip
     have hN:=(hcl 12 11 (by kernel_rfl) (hcl 11 10 (by kernel_rfl) (hcl 10 1 (by kernel_rfl) (hcl 1 0 (by kernel_rfl) hLi))))
     have hB:=J.b hN
     go_simp
     exact hK _ _ ⟨_,_,_,_,_,_,_,_,_,_,_,_,rfl,⟨(fun _=>rfl),(fun h=>J.f1 (un h)),(fun h=>J.f2 (un h)),(fun h=>J.f3 (un h)),(fun h=>J.f4 (un h)),(fun h=>J.f5 (un h)),(fun h=>J.f6 (un h)),(fun h=>J.f7 (un h)),(fun h=>J.f8 (un h)),(fun h _=>J.f9 (un h) hN),(fun h=>J.f10 (un h)),(fun h=>J.f11 (un h)),(fun _=>hB),(fun h=>absurd (hN.symm.trans (un h)) (by simp))⟩⟩
    ·skip
     have hN:=(hcl 12 11 (by kernel_rfl) (hcl 11 10 (by kernel_rfl) (hcl 10 1 (by kernel_rfl) hLi)))
     have hB:=J.b hN
     obtain rfl:=J.f0 (haft ⟨0,.data⟩ (by simp) rfl)
     obtain ⟨q0,q1,q2,q3,q4⟩:=fiveO ((hB.block _ hlx).trans HX.out)
     have hl:=Nat.lt_of_lt_of_le hlx hB.size
     go_simp
     exact hK _ _ ⟨_,_,_,_,_,_,_,_,_,_,_,_,rfl,⟨(fun h=>J.f0 (un h)),(fun _=>rfl),(fun h=>J.f2 (un h)),(fun h=>J.f3 (un h)),(fun h=>J.f4 (un h)),(fun h=>J.f5 (un h)),(fun h=>J.f6 (un h)),(fun h=>J.f7 (un h)),(fun h=>J.f8 (un h)),(fun h _=>J.f9 (un h) hN),(fun h=>J.f10 (un h)),(fun h=>J.f11 (un h)),(fun _=>hB),(fun h=>absurd (hN.symm.trans (un h)) (by simp))⟩⟩
    ·skip
     have hN:=(hcl 12 11 (by kernel_rfl) (hcl 11 10 (by kernel_rfl) (hcl 10 2 (by kernel_rfl) hLi)))
     have hB:=J.b hN
     go_simp
     exact hK _ _ ⟨_,_,_,_,_,_,_,_,_,_,_,_,rfl,⟨(fun h=>J.f0 (un h)),(fun h=>J.f1 (un h)),(fun _=>rfl),(fun h=>J.f3 (un h)),(fun h=>J.f4 (un h)),(fun h=>J.f5 (un h)),(fun h=>J.f6 (un h)),(fun h=>J.f7 (un h)),(fun h=>J.f8 (un h)),(fun h _=>J.f9 (un h) hN),(fun h=>J.f10 (un h)),(fun h=>J.f11 (un h)),(fun _=>hB),(fun h=>absurd (hN.symm.trans (un h)) (by simp))⟩⟩
    ·skip
     have hN:=(hcl 12 9 (by kernel_rfl) (hcl 9 8 (by kernel_rfl) (hcl 8 7 (by kernel_rfl) (hcl 7 6 (by kernel_rfl) (hcl 6 4 (by kernel_rfl) (hcl 4 3 (by kernel_rfl) hLi))))))
     have hB:=J.b hN
     go_simp
     exact hK _ _ ⟨_,_,_,_,_,_,_,_,_,_,_,_,rfl,⟨(fun h=>J.f0 (un h)),(fun h=>J.f1 (un h)),(fun h=>J.f2 (un h)),(fun _=>rfl),(fun h=>J.f4 (un h)),(fun h=>J.f5 (un h)),(fun h=>J.f6 (un h)),(fun h=>J.f7 (un h)),(fun h=>J.f8 (un h)),(fun h _=>J.f9 (un h) hN),(fun h=>J.f10 (un h)),(fun h=>J.f11 (un h)),(fun _=>hB),(fun h=>absurd (hN.symm.trans (un h)) (by simp))⟩⟩
    ·skip
     have hN:=(hcl 12 9 (by kernel_rfl) (hcl 9 8 (by kernel_rfl) (hcl 8 7 (by kernel_rfl) (hcl 7 6 (by kernel_rfl) (hcl 6 4 (by kernel_rfl) hLi)))))
     have hB:=J.b hN
     obtain rfl:=J.f3 (haft ⟨3,.data⟩ (by simp) rfl)
     obtain ⟨q0,q1,q2,q3,q4⟩:=fiveO ((hB.block _ hlt0).trans HT.out)
     have hl:=Nat.lt_of_lt_of_le hlt0 hB.size
     go_simp
     exact hK _ _ ⟨_,_,_,_,_,_,_,_,_,_,_,_,rfl,⟨(fun h=>J.f0 (un h)),(fun h=>J.f1 (un h)),(fun h=>J.f2 (un h)),(fun h=>J.f3 (un h)),(fun _=>rfl),(fun h=>J.f5 (un h)),(fun h=>J.f6 (un h)),(fun h=>J.f7 (un h)),(fun h=>J.f8 (un h)),(fun h _=>J.f9 (un h) hN),(fun h=>J.f10 (un h)),(fun h=>J.f11 (un h)),(fun _=>hB),(fun h=>absurd (hN.symm.trans (un h)) (by simp))⟩⟩
    ·skip
     have hN:=(hcl 12 9 (by kernel_rfl) (hcl 9 8 (by kernel_rfl) (hcl 8 7 (by kernel_rfl) (hcl 7 6 (by kernel_rfl) (hcl 6 5 (by kernel_rfl) hLi)))))
     have hB:=J.b hN
     go_simp
     exact hK _ _ ⟨_,_,_,_,_,_,_,_,_,_,_,_,rfl,⟨(fun h=>J.f0 (un h)),(fun h=>J.f1 (un h)),(fun h=>J.f2 (un h)),(fun h=>J.f3 (un h)),(fun h=>J.f4 (un h)),(fun _=>rfl),(fun h=>J.f6 (un h)),(fun h=>J.f7 (un h)),(fun h=>J.f8 (un h)),(fun h _=>J.f9 (un h) hN),(fun h=>J.f10 (un h)),(fun h=>J.f11 (un h)),(fun _=>hB),(fun h=>absurd (hN.symm.trans (un h)) (by simp))⟩⟩
    ·skip
     have hN:=(hcl 12 9 (by kernel_rfl) (hcl 9 8 (by kernel_rfl) (hcl 8 7 (by kernel_rfl) (hcl 7 6 (by kernel_rfl) hLi))))
     have hB:=J.b hN
     obtain rfl:=J.f4 (haft ⟨4,.data⟩ (by simp) rfl)
     obtain rfl:=J.f5 (haft ⟨5,.data⟩ (by simp) rfl)
     go_simp
     exact hK _ _ ⟨_,_,_,_,_,_,_,_,_,_,_,_,rfl,⟨(fun h=>J.f0 (un h)),(fun h=>J.f1 (un h)),(fun h=>J.f2 (un h)),(fun h=>J.f3 (un h)),(fun h=>J.f4 (un h)),(fun h=>J.f5 (un h)),(fun _=>rfl),(fun h=>J.f7 (un h)),(fun h=>J.f8 (un h)),(fun h _=>J.f9 (un h) hN),(fun h=>J.f10 (un h)),(fun h=>J.f11 (un h)),(fun _=>hB),(fun h=>absurd (hN.symm.trans (un h)) (by simp))⟩⟩
    ·skip
     have hN:=(hcl 12 9 (by kernel_rfl) (hcl 9 8 (by kernel_rfl) (hcl 8 7 (by kernel_rfl) hLi)))
     have hB:=J.b hN
     obtain rfl:=J.f6 (haft ⟨6,.data⟩ (by simp) rfl)
     go_simp
     exact hK _ _ ⟨_,_,_,_,_,_,_,_,_,_,_,_,rfl,⟨(fun h=>J.f0 (un h)),(fun h=>J.f1 (un h)),(fun h=>J.f2 (un h)),(fun h=>J.f3 (un h)),(fun h=>J.f4 (un h)),(fun h=>J.f5 (un h)),(fun h=>J.f6 (un h)),(fun _=>rfl),(fun h=>J.f8 (un h)),(fun h _=>J.f9 (un h) hN),(fun h=>J.f10 (un h)),(fun h=>J.f11 (un h)),(fun _=>hB),(fun h=>absurd (hN.symm.trans (un h)) (by simp))⟩⟩
    ·skip
     have hN:=(hcl 12 9 (by kernel_rfl) (hcl 9 8 (by kernel_rfl) hLi))
     have hB:=J.b hN
     obtain rfl:=J.f7 (haft ⟨7,.data⟩ (by simp) rfl)
     have hq:=(hB.cell (p:=⟨bq,oq+k * 2,none⟩) hlq).trans HQ.out
     go_simp
     exact hK _ _ ⟨_,_,_,_,_,_,_,_,_,_,_,_,rfl,⟨(fun h=>J.f0 (un h)),(fun h=>J.f1 (un h)),(fun h=>J.f2 (un h)),(fun h=>J.f3 (un h)),(fun h=>J.f4 (un h)),(fun h=>J.f5 (un h)),(fun h=>J.f6 (un h)),(fun h=>J.f7 (un h)),(fun _=>rfl),(fun h _=>J.f9 (un h) hN),(fun h=>J.f10 (un h)),(fun h=>J.f11 (un h)),(fun _=>hB),(fun h=>absurd (hN.symm.trans (un h)) (by simp))⟩⟩
    ·skip
     have hN:=(hcl 12 9 (by kernel_rfl) hLi)
     have hB:=J.b hN
     obtain rfl:=J.f8 (haft ⟨8,.data⟩ (by simp) rfl)
     go_simp
     go_wp2_with (go_at_call 79;refine (KC.out W hB).mono ?_;rintro e W2 ⟨a,c,rfl,hO,hb⟩)
     exact ⟨_,_,_,_,_,_,_,_,_,_,_,_,rfl,⟨(fun h=>J.f0 (un h)),(fun h=>J.f1 (un h)),(fun h=>J.f2 (un h)),(fun h=>J.f3 (un h)),(fun h=>J.f4 (un h)),(fun h=>J.f5 (un h)),(fun h=>J.f6 (un h)),(fun h=>J.f7 (un h)),(fun h=>J.f8 (un h)),(fun _ _=>⟨a,c,rfl,hO⟩),(fun h=>J.f10 (un h)),(fun h=>J.f11 (un h)),(fun _=>k_trans hB hb),(fun h=>absurd (hN.symm.trans (un h)) (by simp))⟩⟩
    ·skip
     have hN:=(hcl 12 11 (by kernel_rfl) (hcl 11 10 (by kernel_rfl) hLi))
     have hB:=J.b hN
     obtain rfl:=J.f1 (haft ⟨1,.data⟩ (by simp) rfl)
     obtain rfl:=J.f2 (haft ⟨2,.data⟩ (by simp) rfl)
     go_simp
     exact hK _ _ ⟨_,_,_,_,_,_,_,_,_,_,_,_,rfl,⟨(fun h=>J.f0 (un h)),(fun h=>J.f1 (un h)),(fun h=>J.f2 (un h)),(fun h=>J.f3 (un h)),(fun h=>J.f4 (un h)),(fun h=>J.f5 (un h)),(fun h=>J.f6 (un h)),(fun h=>J.f7 (un h)),(fun h=>J.f8 (un h)),(fun h _=>J.f9 (un h) hN),(fun _=>rfl),(fun h=>J.f11 (un h)),(fun _=>hB),(fun h=>absurd (hN.symm.trans (un h)) (by simp))⟩⟩
    ·skip
     have hN:=(hcl 12 11 (by kernel_rfl) hLi)
     have hB:=J.b hN
     obtain rfl:=J.f10 (haft ⟨10,.data⟩ (by simp) rfl)
     go_simp
     exact hK _ _ ⟨_,_,_,_,_,_,_,_,_,_,_,_,rfl,⟨(fun h=>J.f0 (un h)),(fun h=>J.f1 (un h)),(fun h=>J.f2 (un h)),(fun h=>J.f3 (un h)),(fun h=>J.f4 (un h)),(fun h=>J.f5 (un h)),(fun h=>J.f6 (un h)),(fun h=>J.f7 (un h)),(fun h=>J.f8 (un h)),(fun h _=>J.f9 (un h) hN),(fun h=>J.f10 (un h)),(fun _=>rfl),(fun _=>hB),(fun h=>absurd (hN.symm.trans (un h)) (by simp))⟩⟩
    ·skip
     have hN:=hLi
     have hB:=J.b hN
     obtain ⟨aw,cw,rfl,hO⟩:=J.f9 (haft ⟨9,.data⟩ (by simp) rfl) hN
     obtain rfl:=J.f11 (haft ⟨11,.data⟩ (by simp) rfl)
     have hBk:=(hB.block g hlg).trans HG.out
     obtain ⟨y0,hy0⟩:=someB (p:=k * 2) hBk hks
     have fz:=freeB (p:=k * 2) hBk
     go_simp
     exact hK _ _ ⟨_,_,_,_,_,_,_,_,_,_,_,_,rfl,⟨(fun h=>J.f0 (un h)),(fun h=>J.f1 (un h)),(fun h=>J.f2 (un h)),(fun h=>J.f3 (un h)),(fun h=>J.f4 (un h)),(fun h=>J.f5 (un h)),(fun h=>J.f6 (un h)),(fun h=>J.f7 (un h)),(fun h=>J.f8 (un h)),(fun _ h=>absurd (h.symm.trans upd_self) (by simp)),(fun h=>J.f10 (un h)),(fun h=>J.f11 (un h)),(fun h=>absurd (h.symm.trans upd_self) (by simp)),(fun _=>⟨_,W,hO,hB,rfl⟩)⟩⟩
end Go.Proofs.Ytggmjiddadjilaj
