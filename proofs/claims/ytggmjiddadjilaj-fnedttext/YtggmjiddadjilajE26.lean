/-
  PROVED HERE: what the model's l2Copy answers of a table that is ok: the same table, in memory of its own; nothing that was in memory is turned.
-/
import Derived.Test.YtggmjiddadjilajE25
import Derived.Test.YtggmjiddadjilajE22
import Derived.Test.YtggmjiddadjilajE13
import Derived.Deep.Cut
namespace Go.Proofs.Ytggmjiddadjilaj
open Go.RowKit

theorem row_put9 {w:World} {base:Nat} {e e':TypeId} {sz:Nat} {v:Value} {m:Nat} {xs:List Value} (h:w.ownsRow base e sz v m xs) {g:Nat} {cur:Array Value} (hg:w.heap[g]?=some (.cells cur e')) (he:e ≠ e') (p:Nat) (u:Value):(w.setCell ⟨g,p,none⟩ u).ownsRow base e sz v m xs :=
 row_off h (Off.set (n:=0) (b2:=none) w ⟨g,p,none⟩ rfl u) (Nat.zero_le _) (row_ne_block h hg he) (by rcases hb:v.ownBlock with _ | b;exact .inl rfl;exact .inr (by simp))
theorem row_off5 {w:World} {base:Nat} {e e':TypeId} {sz:Nat} {v:Value} {m:Nat} {xs:List Value} (h:w.ownsRow base e sz v m xs) {g:Nat} {cur:Array Value} (hg:w.heap[g]?=some (.cells cur e')) (he:e ≠ e') (u0 u1 u2 u3 u4:Value) :
  (((((w.setCell ⟨g,0,none⟩ u0).setCell ⟨g,1,none⟩ u1).setCell ⟨g,2,none⟩ u2).setCell ⟨g,3,none⟩ u3).setCell ⟨g,4,none⟩ u4).ownsRow base e sz v m xs :=
 row_put9 (row_put9 (row_put9 (row_put9 (row_put9 h hg he 0 u0) (setB hg _) he 1 u1) (setB (setB hg _) _) he 2 u2) (setB (setB (setB hg _) _) _) he 3 u3) (setB (setB (setB (setB hg _) _) _) _) he 4 u4
theorem Bk.grownO {r:Nat} {a w w':World} {row:Option Nat} (h:Bk r a w) (k:w.grownBy w' row) (hr:∀ q,row=some q→a.heap.size≤q):Bk r a w' :=
 ⟨k.os.trans h.os,k.tape.trans h.tape,k.output.trans h.output,Nat.le_trans h.size k.size,fun i h1 h2=>(k.block i (Nat.lt_of_lt_of_le h1 h.size) (fun e=>by have:=hr i e.symm;omega)).trans (h.block i h1 h2)⟩
structure LcJ1 (tb:Nat) (ac:Option Addr) (cc:Nat) (t:T) (W3:World) (L:Nat→Bool) (W:World) (v3 v5 v6 v7 v8 v9 v10 v11 v12 v13 v14 v15:Value):Prop where
 f0:L 0=true→L 3=false→W.ownsRow W3.heap.size 84 2 v5 0 []
 f1:L 1=true→v6=.pointer (some ⟨tb,0,none⟩)
 f2:L 2=true→v7=.slice ac t.cols.length cc
 f3:L 3=true→L 12=false→∃ a c,v8=.slice a t.cols.length c∧W.ownsRow W3.heap.size 84 2 v8 t.cols.length (t.cols.flatMap colVs)
 f4:L 4=true→v9=.pointer (some ⟨tb,1,none⟩)
 f5:L 5=true→v10=.int .i64 t.head
 f6:L 6=true→v11=.pointer (some ⟨tb,2,none⟩)
 f7:L 7=true→v12=.int .i64 t.foot
 f8:L 8=true→v13=.pointer (some ⟨tb,4,none⟩)
 f9:L 9=true→v14=.int .i64 t.gap
 f10:L 10=true→∃ a c,v8=.slice a t.cols.length c∧v15=.agg #[.slice a t.cols.length c,.int .i64 t.head,.int .i64 t.foot,.slice none 0 0,.int .i64 t.gap]
 f11:L 11=true→L 12=false→(∃ b,v3=.pointer (some ⟨b,0,none⟩)∧W3.heap.size≤b∧W.heap[b]?=some (.cells #[.slice none 0 0,.int .i64 0,.int .i64 0,.slice none 0 0,.int .i64 0] 37))
 f12:L 12=true→∃ b a c,v3=.pointer (some ⟨b,0,none⟩)∧W3.heap.size≤b∧W.heap[b]?=some (.cells #[.slice a t.cols.length c,.int .i64 t.head,.int .i64 t.foot,.slice none 0 0,.int .i64 t.gap] 37)∧W.ownsRow W3.heap.size 84 2 (.slice a t.cols.length c) t.cols.length (t.cols.flatMap colVs)∧Below W3.heap.size W3 W
 b:L 12=false→Below W3.heap.size W3 W
structure LcJ2 (xb tb bq oq k cr m cu B C2 c1:Nat) (a1 A2 au:Option Addr) (cs:List C) (wh:Bool) (t:T) (ur:List (Value × R)) (V1:World) (W3:World) (L:Nat→Bool) (W:World) (v23 v24 v25 v26 v27 v28 v29 v30 v31 v32 v33 v34 v35 v36 v37 v38 v39 v40 v41 v42:Value):Prop where
 f0:L 0=true→v23=.pointer (some ⟨xb,3,none⟩)
 f1:L 1=true→v24=.slice A2 k C2
 f2:L 2=true→L 9=false→W.ownsRow W3.heap.size 41 11 v25 0 []
 f3:L 3=true→v26=.pointer (some ⟨tb,3,none⟩)
 f4:L 4=true→v27=.slice (some ⟨bq,oq,none⟩) t.rows.length cr
 f5:L 5=true→v28=.int .i64 k
 f6:L 6=true→v29=.pointer (some ⟨bq,oq+k * 2,none⟩)
 f7:L 7=true→v30=.pointer (some ⟨bq,oq+k * 2,none⟩)
 f8:L 8=true→v31=.slice au m cu
 f9:L 9=true→L 18=false→∃ a c,v32=.slice a m c∧OwnC W W3.heap.size v32 cs
 f10:L 10=true→v33=.pointer (some ⟨tb,3,none⟩)
 f11:L 11=true→v34=.slice (some ⟨bq,oq,none⟩) t.rows.length cr
 f12:L 12=true→v35=.int .i64 k
 f13:L 13=true→v36=.pointer (some ⟨bq,oq+k * 2,none⟩)
 f14:L 14=true→v37=.pointer (some ⟨bq,oq+k * 2+1,none⟩)
 f15:L 15=true→v38=.bool wh
 f16:L 16=true→∃ a c,v32=.slice a m c∧v39=.agg #[.slice a m c,.bool wh]
 f17:L 17=true→L 18=false→∃ g a c,v40=.slice (some ⟨g,0,none⟩) 1 1∧v32=.slice a m c∧W.heap[g]?=some (.cells #[.slice a m c,.bool wh] 52)
 f18:L 18=true→L 20=false→∃ a2 c2,v41=.slice a2 (k+1) c2∧OwnR W B v41 (ur ++ [(v32,⟨cs,wh⟩)])∧Bk xb V1 W∧W.heap[xb]?=some (.cells #[.slice a1 t.cols.length c1,.int .i64 t.head,.int .i64 t.foot,.slice A2 k C2,.int .i64 t.gap] 37)
 f19:L 19=true→v42=.pointer (some ⟨xb,3,none⟩)
 f20:L 20=true→∃ a2 c2 ur',ur'.map (·.2)=ur.map (·.2) ++ [⟨cs,wh⟩]∧OwnR W B (.slice a2 (k+1) c2) ur'∧Bk xb V1 W∧W.heap[xb]?=some (.cells #[.slice a1 t.cols.length c1,.int .i64 t.head,.int .i64 t.foot,.slice a2 (k+1) c2,.int .i64 t.gap] 37)
 b:L 18=false→Below W3.heap.size W3 W

set_option maxRecDepth 100000 in
set_option maxHeartbeats 4000000 in
theorem specl2Copy (ac ar:Option Addr) (cc cr:Nat) (t:T) (htk:tblB t=true) (w:World) {z:Nat} (hc:ColsAt w z (.slice ac t.cols.length cc) t.cols) (hr:RowsAt w z (.slice ar t.rows.length cr) t.rows) :
  Calls Try.prog 52 #[.agg #[.slice ac t.cols.length cc,.int .i64 t.head,.int .i64 t.foot,.slice ar t.rows.length cr,.int .i64 t.gap]] w fun e w'=>∃ a1 c1 a2 c2,e=.returned (.agg #[.slice a1 t.cols.length c1,.int .i64 t.head,.int .i64 t.foot,.slice a2 t.rows.length c2,.int .i64 t.gap])∧OwnT w' w.heap.size (.slice a1 t.cols.length c1) (.slice a2 t.rows.length c2) t∧Below w.heap.size w w':=by
 have hmx:Try.prog.follows .mixedOrders=true:=by kernel_rfl
 obtain ⟨hbc,hb1r,hb8,hcell⟩:=tbl_bounds htk
 have HCell:=Hid.intro hcell
 obtain ⟨i1,hi1,hy0,hy1,hy2⟩:=info_parts infoColn
 obtain ⟨i2,hi2,hx0,hx1,hx2⟩:=info_parts infoRown
 obtain ⟨i3,hi3,hw0,hw1,hw2⟩:=info_parts infoCelln
 obtain ⟨W3,hW3⟩:∃ W3,(w.alloc (.cells #[.slice ac t.cols.length cc,.int .i64 t.head,.int .i64 t.foot,.slice ar t.rows.length cr,.int .i64 t.gap] 37)).alloc (.cells #[.slice none 0 0,.int .i64 0,.int .i64 0,.slice none 0 0,.int .i64 0] 37)=W3:=⟨_,rfl⟩
 have K0:Below w.heap.size w W3:=by rw [← hW3];exact k_alloc (k_alloc (Below.refl _ _) _) _
 have T0:W3.heap[w.heap.size]?=some (.cells #[.slice ac t.cols.length cc,.int .i64 t.head,.int .i64 t.foot,.slice ar t.rows.length cr,.int .i64 t.gap] 37):=by rw [← hW3];exact alloc_at (newestB _ _)
 have R0:W3.heap[w.heap.size+1]?=some (.cells #[.slice none 0 0,.int .i64 0,.int .i64 0,.slice none 0 0,.int .i64 0] 37):=by rw [← hW3];have:=newestB (w.alloc (.cells #[.slice ac t.cols.length cc,.int .i64 t.head,.int .i64 t.foot,.slice ar t.rows.length cr,.int .i64 t.gap] 37)) (.cells #[.slice none 0 0,.int .i64 0,.int .i64 0,.slice none 0 0,.int .i64 0] 37);simpa using this
 have HCA:=Hid.intro hc
 have HRA:=Hid.intro hr
 have HKw:=Hid.intro K0
 have HT:=Hid.intro T0
 have HR:=Hid.intro R0
 have hlt0:=(Array.getElem?_eq_some_iff.1 T0).1
 clear hc hr K0 T0 R0 hcell htk
 go_enter Try.func52,Try.ntmps52
 go_upto_region 1 with fail
 clear hW3
 refine wp_region_inv2 (fun L act W=>∃ v3 v5 v6 v7 v8 v9 v10 v11 v12 v13 v14 v15:Value,act=⟨#[.agg #[.slice ac t.cols.length cc,.int .i64 t.head,.int .i64 t.foot,.slice ar t.rows.length cr,.int .i64 t.gap],.pointer (some ⟨w.heap.size,0,none⟩),.pointer (some ⟨w.heap.size+1,0,none⟩),v3,undef,v5,v6,v7,v8,v9,v10,v11,v12,v13,v14,v15,undef,undef,undef,undef,undef,undef,undef,undef,undef,undef,undef,undef,undef,undef,undef,undef,undef,undef,undef,undef,undef,undef,undef,undef,undef,undef,undef,undef],[]⟩∧LcJ1 w.heap.size ac cc t W3 L W v3 v5 v6 v7 v8 v9 v10 v11 v12 v13 v14 v15) hmx (by kernel_rfl) ?hs ?hd ?h0
 case h0=>exact ⟨_,_,_,_,_,_,_,_,_,_,_,_,rfl,⟨(fun h=>by cases h),(fun h=>by cases h),(fun h=>by cases h),(fun h=>by cases h),(fun h=>by cases h),(fun h=>by cases h),(fun h=>by cases h),(fun h=>by cases h),(fun h=>by cases h),(fun h=>by cases h),(fun h=>by cases h),(fun h=>by cases h),(fun h=>by cases h),(fun _=>k_drew (Below.refl _ _))⟩⟩
 case hd =>
  intro L act W hJ hall
  obtain ⟨v3,v5,v6,v7,v8,v9,v10,v11,v12,v13,v14,v15,ha,J⟩:=hJ
  subst ha
  have hD3:=hall 3 (by decide)
  obtain ⟨xb,a1,c1,rfl,hlb,hX,hO,hB⟩:=J.f12 (hall 12 (by decide))
  clear J hall hD3
  have HX1:=Hid.intro hX
  have HO1:=Hid.intro hO
  have HK1:=Hid.intro (k_trans HKw.out hB)
  have HT1:=Hid.intro ((hB.block _ hlt0).trans HT.out)
  have HR1:=Hid.intro ((hB.block _ (Array.getElem?_eq_some_iff.1 HR.out).1).trans HR.out)
  have hxl:=(Array.getElem?_eq_some_iff.1 hX).1
  have hrl1:w.heap.size+1 < W3.heap.size:=(Array.getElem?_eq_some_iff.1 HR.out).1
  clear hX hO hB HKw
  generalize W=V1 at HX1 HO1 HK1 HT1 HR1 hxl ⊢
  go_upto_region 2 with fail
  go_wp2_with fail
  go_loopw [4] (fun s W=>∃ (k:Nat) (a2:Option Addr) (c2:Nat) (ur:List (Value × R)),s=.int .i64 k∧k≤t.rows.length∧Hid (ur.map (·.2)=t.rows.take k)∧Hid (W.heap[xb]?=some (.cells #[.slice a1 t.cols.length c1,.int .i64 t.head,.int .i64 t.foot,.slice a2 k c2,.int .i64 t.gap] 37))∧Hid (OwnR W V1.heap.size (.slice a2 k c2) ur)∧Hid (Bk xb V1 W)) (fun s _=>t.rows.length - (intOf s).toNat)
  case atStart=>exact ⟨0,none,0,[],rfl,Nat.zero_le _,rfl,HX1,⟨⟨rfl,.inl ⟨rfl,rfl⟩⟩,fun p hp=>absurd hp (by simp),.nil⟩,Bk.refl _ _⟩
  case round =>
   obtain ⟨k,a2,c2,ur,rfl,hk,HUr,HX,HOR,HBk⟩:=hrel
   have hs1:=HBk.out.size
   have hul:ur.length=k:=by
    have:=congrArg List.length HUr.out
    rw [List.length_map,List.length_take] at this
    omega
   have HUl:=Hid.intro hul
   clear hul
   have HTr:Hid (wr.heap[w.heap.size]?=some (.cells #[.slice ac t.cols.length cc,.int .i64 t.head,.int .i64 t.foot,.slice ar t.rows.length cr,.int .i64 t.gap] 37)):=(HBk.out.block _ (by omega) (by omega)).trans HT1.out
   have HKr:Hid (Below w.heap.size w wr):=HK1.out.trans (HBk.out.below HK1.out.size (by omega))
   by_cases hkl:k < t.rows.length
   case neg =>
    obtain rfl:k=t.rows.length:=by omega
    have hnot:¬ ((t.rows.length:Int) < (t.rows.length:Int)):=by omega
    have HRr:Hid (wr.heap[w.heap.size+1]?=some (.cells #[.slice none 0 0,.int .i64 0,.int .i64 0,.slice none 0 0,.int .i64 0] 37)):=(HBk.out.block _ (by omega) (by omega)).trans HR1.out
    have HOc:Hid (OwnCol wr W3.heap.size (.slice a1 t.cols.length c1) t.cols):=⟨HO1.out.1,HO1.out.2.elim Or.inl (fun ⟨g',cap,cur,e,hg',hc,q⟩=>Or.inr ⟨g',cap,cur,e,hg',(HBk.out.block g' (Array.getElem?_eq_some_iff.1 hc).1 (fun e1=>by subst e1;rw [HX1.out] at hc;simp at hc)).trans hc,q⟩)⟩
    obtain ⟨z0,z1,z2,z3,z4⟩:=fiveO HTr.out
    obtain ⟨y0,y1,y2,y3,y4⟩:=fiveO HX.out
    obtain ⟨d0,d1,d2,d3,d4⟩:=fiveO HRr.out
    have fz:∀ p,wr.frozen? ⟨w.heap.size+1,p,none⟩=false:=fun p=>freeB HRr.out
    have HUr2:Hid (ur.map (·.2)=t.rows):=by show _=_;rw [HUr.out,List.take_length]
    go_wp2
    exact bodyPost_ret (v:=.agg #[.slice a1 t.cols.length c1,.int .i64 t.head,.int .i64 t.foot,.slice a2 t.rows.length c2,.int .i64 t.gap]) (by simp [results,Try.results52,go_sem,d0,d1,d2,d3,d4]) rfl ⟨a1,c1,a2,c2,rfl,⟨ur,HUr2.out,row_base (row_since HOc.out (Since.set (Since.set (Since.set (Since.set (Since.set (Since.refl _ _) (p:=⟨w.heap.size+1,0,none⟩) (by dsimp only;omega) _) (p:=⟨w.heap.size+1,1,none⟩) (by dsimp only;omega) _) (p:=⟨w.heap.size+1,2,none⟩) (by dsimp only;omega) _) (p:=⟨w.heap.size+1,3,none⟩) (by dsimp only;omega) _) (p:=⟨w.heap.size+1,4,none⟩) (by dsimp only;omega) _)) (by omega),(HOR.out.since (Since.set (Since.set (Since.set (Since.set (Since.set (Since.refl _ _) (p:=⟨w.heap.size+1,0,none⟩) (by dsimp only;omega) _) (p:=⟨w.heap.size+1,1,none⟩) (by dsimp only;omega) _) (p:=⟨w.heap.size+1,2,none⟩) (by dsimp only;omega) _) (p:=⟨w.heap.size+1,3,none⟩) (by dsimp only;omega) _) (p:=⟨w.heap.size+1,4,none⟩) (by dsimp only;omega) _)).base (by omega)⟩,k_set (k_set (k_set (k_set (k_set HKr.out (Nat.le_succ _) _) (Nat.le_succ _) _) (Nat.le_succ _) _) (Nat.le_succ _) _) (Nat.le_succ _) _⟩
   obtain ⟨bq,oq,cr',e',hq1,hq2,hlq,u,hx0',hx1',hx'⟩:=At.get (HRA.out.kept HKr.out) hkl
   simp only [Value.slice.injEq,true_and] at e'
   obtain ⟨rfl,rfl⟩:=e'
   obtain ⟨au,cu,rfl,hul'⟩:=At.form hx'
   have hm5:=HCell.out k hkl
   have HQ0:=Hid.intro hx0'
   have HAs:=Hid.intro (at_some hx')
   have HFl:=Hid.intro (flat_len cellVs 11 (fun _=>rfl) (t.rows.getD k dR).cells)
   have HNw:=Hid.intro (fun W (hW:Below wr.heap.size wr W)=>news_cells (hx'.kept hW))
   have HCs:Hid ((t.rows.getD k dR).cells=(t.rows.getD k dR).cells):=rfl
   have HWh:Hid ((t.rows.getD k dR).whole=(t.rows.getD k dR).whole):=rfl
   have HQ1:=Hid.intro hx1'
   have HMl:Hid ((t.rows.getD k dR).cells.length=(t.rows.getD k dR).cells.length):=rfl
   have HBs:Hid (V1.heap.size≤wr.heap.size):=hs1
   have hxB:=hxl
   have hlx:xb < wr.heap.size:=Nat.lt_of_lt_of_le hxl hs1
   have hltW:w.heap.size < wr.heap.size:=by omega
   have HAp:Hid (∀ {W:World} {cs:List C} {v:Value},OwnC W wr.heap.size v cs→∀ p ∈ ur,p.1.ownBlock=none∨p.1.ownBlock ≠ v.ownBlock):=fun hC p hp=>by
    rcases hb:p.1.ownBlock with _ | b
    ·exact .inl rfl
    ·refine .inr (fun e=>?_)
     have l1:=(row_lt (HOR.out.cells p hp) hb).2
     have l2:=(row_lt hC e.symm).1
     omega
   clear hx' hx0' hx1' hul' hs1
   generalize hcsE:(t.rows.getD k dR).cells=cs at HQ0 HAs HFl HNw HCs HMl hm5
   generalize hmE:cs.length=m at HQ0 HAs HFl HMl hm5
   generalize hwE:(t.rows.getD k dR).whole=wh at HQ1 HWh
   replace HCs:Hid ((t.rows.getD k dR).cells=cs):=hcsE
   replace HWh:Hid ((t.rows.getD k dR).whole=wh):=hwE
   replace HMl:Hid (cs.length=m):=hmE
   clear hcsE hmE hwE
   unfold maxLen at hq2
   obtain ⟨z0,z1,z2,z3,z4⟩:=fiveO HTr.out
   go_upto_region 5 with fail
   clear z0 z1 z2 z3 z4
   refine wp_region_inv2 (fun L act W=>∃ v23 v24 v25 v26 v27 v28 v29 v30 v31 v32 v33 v34 v35 v36 v37 v38 v39 v40 v41 v42:Value,act=⟨#[.agg #[.slice ac t.cols.length cc,.int .i64 t.head,.int .i64 t.foot,.slice (some ⟨bq,oq,none⟩) t.rows.length cr,.int .i64 t.gap],.pointer (some ⟨w.heap.size,0,none⟩),.pointer (some ⟨w.heap.size+1,0,none⟩),.pointer (some ⟨xb,0,none⟩),.int .i64 k,v5,v6,v7,v8,v9,v10,v11,v12,v13,v14,v15,.int .i64 k,.pointer (some ⟨w.heap.size,3,none⟩),.slice (some ⟨bq,oq,none⟩) t.rows.length cr,.int .i64 t.rows.length,.bool true,u21,u22,v23,v24,v25,v26,v27,v28,v29,v30,v31,v32,v33,v34,v35,v36,v37,v38,v39,v40,v41,v42,undef],[]⟩∧LcJ2 xb w.heap.size bq oq k cr m cu V1.heap.size c2 c1 a1 a2 au cs wh t ur V1 wr L W v23 v24 v25 v26 v27 v28 v29 v30 v31 v32 v33 v34 v35 v36 v37 v38 v39 v40 v41 v42) hmx (by kernel_rfl) ?hs2 ?hd2 ?h02
   case h02=>exact ⟨_,_,_,_,_,_,_,_,_,_,_,_,_,_,_,_,_,_,_,_,rfl,⟨(fun h=>by cases h),(fun h=>by cases h),(fun h=>by cases h),(fun h=>by cases h),(fun h=>by cases h),(fun h=>by cases h),(fun h=>by cases h),(fun h=>by cases h),(fun h=>by cases h),(fun h=>by cases h),(fun h=>by cases h),(fun h=>by cases h),(fun h=>by cases h),(fun h=>by cases h),(fun h=>by cases h),(fun h=>by cases h),(fun h=>by cases h),(fun h=>by cases h),(fun h=>by cases h),(fun h=>by cases h),(fun h=>by cases h),(fun _=>k_drew (Below.refl _ _))⟩⟩
   case hd2 =>
    intro L act W hJ hall
    obtain ⟨v23,v24,v25,v26,v27,v28,v29,v30,v31,v32,v33,v34,v35,v36,v37,v38,v39,v40,v41,v42,ha,J⟩:=hJ
    subst ha
    obtain ⟨a3,c3,ur',hur',hOR',hbk',hX'⟩:=J.f20 (hall 20 (by decide))
    clear J hall
    have HOR':=Hid.intro hOR'
    have HBk':=Hid.intro hbk'
    have HX':=Hid.intro hX'
    have HUr':Hid (ur'.map (·.2)=t.rows.take (k+1)):=by
     show _=_
     rw [hur',HUr.out,List.take_add_one,List.getElem?_eq_getElem hkl,← getD_get dR hkl]
     simp only [Option.toList_some,List.append_cancel_left_eq,List.cons.injEq,and_true]
     rw [← HCs.out,← HWh.out]
    clear hOR' hbk' hX' hur'
    go_wp2
    go_roundw
    case rel=>exact ⟨k+1,a3,c3,ur',by go_num,by omega,HUr',HX',HOR',HBk'⟩
    case measure=>simp [intOf];omega
   case hs2 =>
    intro L act W i o hJ hcl ho hLi haft K hK
    obtain ⟨v23,v24,v25,v26,v27,v28,v29,v30,v31,v32,v33,v34,v35,v36,v37,v38,v39,v40,v41,v42,ha,J⟩:=hJ
    subst ha
    have hi':i < 21:=by
     have:=(Array.getElem?_eq_some_iff.1 ho).1
     simpa using this
    rcases (by omega:i=0∨i=1∨i=2∨i=3∨i=4∨i=5∨i=6∨i=7∨i=8∨i=9∨i=10∨i=11∨i=12∨i=13∨i=14∨i=15∨i=16∨i=17∨i=18∨i=19∨i=20) with rfl | rfl | rfl | rfl | rfl | rfl | rfl | rfl | rfl | rfl | rfl | rfl | rfl | rfl | rfl | rfl | rfl | rfl | rfl | rfl | rfl
    all_goals
     simp only [List.getElem?_toArray,List.getElem?_cons_zero,List.getElem?_cons_succ,Option.some.injEq] at ho
     subst ho
     clear hi'
    ·skip
     have hN:=(hcl 18 1 (by kernel_rfl) (hcl 1 0 (by kernel_rfl) hLi))
     have hB:=J.b hN
     go_simp
     exact hK _ _ ⟨_,_,_,_,_,_,_,_,_,_,_,_,_,_,_,_,_,_,_,_,rfl,⟨(fun _=>rfl),(fun h=>absurd (((hcl 1 0 (by kernel_rfl) hLi)).symm.trans (un h)) (by simp)),(fun h h2=>(J.f2 (un h) (un h2))),(fun h=>J.f3 (un h)),(fun h=>J.f4 (un h)),(fun h=>J.f5 (un h)),(fun h=>J.f6 (un h)),(fun h=>J.f7 (un h)),(fun h=>J.f8 (un h)),(fun h h2=>(J.f9 (un h) (un h2))),(fun h=>J.f10 (un h)),(fun h=>J.f11 (un h)),(fun h=>J.f12 (un h)),(fun h=>J.f13 (un h)),(fun h=>J.f14 (un h)),(fun h=>J.f15 (un h)),(fun h=>J.f16 (un h)),(fun h h2=>(J.f17 (un h) (un h2))),(fun h _=>absurd (((hcl 18 1 (by kernel_rfl) (hcl 1 0 (by kernel_rfl) hLi))).symm.trans (un h)) (by simp)),(fun h=>J.f19 (un h)),(fun h=>absurd (((hcl 20 18 (by kernel_rfl) (hcl 18 1 (by kernel_rfl) (hcl 1 0 (by kernel_rfl) hLi)))).symm.trans (un h)) (by simp)),(fun _=>hB)⟩⟩
    ·skip
     have hN:=(hcl 18 1 (by kernel_rfl) hLi)
     have hB:=J.b hN
     obtain rfl:=J.f0 (haft ⟨0,.data⟩ (by simp) rfl)
     obtain ⟨q0,q1,q2,q3,q4⟩:=fiveO ((hB.block _ hlx).trans HX.out)
     have hl:=Nat.lt_of_lt_of_le hlx hB.size
     go_simp
     exact hK _ _ ⟨_,_,_,_,_,_,_,_,_,_,_,_,_,_,_,_,_,_,_,_,rfl,⟨(fun h=>J.f0 (un h)),(fun _=>rfl),(fun h h2=>(J.f2 (un h) (un h2))),(fun h=>J.f3 (un h)),(fun h=>J.f4 (un h)),(fun h=>J.f5 (un h)),(fun h=>J.f6 (un h)),(fun h=>J.f7 (un h)),(fun h=>J.f8 (un h)),(fun h h2=>(J.f9 (un h) (un h2))),(fun h=>J.f10 (un h)),(fun h=>J.f11 (un h)),(fun h=>J.f12 (un h)),(fun h=>J.f13 (un h)),(fun h=>J.f14 (un h)),(fun h=>J.f15 (un h)),(fun h=>J.f16 (un h)),(fun h h2=>(J.f17 (un h) (un h2))),(fun h _=>absurd (((hcl 18 1 (by kernel_rfl) hLi)).symm.trans (un h)) (by simp)),(fun h=>J.f19 (un h)),(fun h=>absurd (((hcl 20 18 (by kernel_rfl) (hcl 18 1 (by kernel_rfl) hLi))).symm.trans (un h)) (by simp)),(fun _=>hB)⟩⟩
    ·skip
     have hN:=(hcl 18 17 (by kernel_rfl) (hcl 17 16 (by kernel_rfl) (hcl 16 9 (by kernel_rfl) (hcl 9 2 (by kernel_rfl) hLi))))
     have hB:=J.b hN
     go_simp
     exact hK _ _ ⟨_,_,_,_,_,_,_,_,_,_,_,_,_,_,_,_,_,_,_,_,rfl,⟨(fun h=>J.f0 (un h)),(fun h=>J.f1 (un h)),(fun _ _=>World.ownsRow_made W #[] 0 hB.size (Nat.zero_le _) (by simp)),(fun h=>J.f3 (un h)),(fun h=>J.f4 (un h)),(fun h=>J.f5 (un h)),(fun h=>J.f6 (un h)),(fun h=>J.f7 (un h)),(fun h=>J.f8 (un h)),(fun h _=>absurd (((hcl 9 2 (by kernel_rfl) hLi)).symm.trans (un h)) (by simp)),(fun h=>J.f10 (un h)),(fun h=>J.f11 (un h)),(fun h=>J.f12 (un h)),(fun h=>J.f13 (un h)),(fun h=>J.f14 (un h)),(fun h=>J.f15 (un h)),(fun h=>absurd (((hcl 16 9 (by kernel_rfl) (hcl 9 2 (by kernel_rfl) hLi))).symm.trans (un h)) (by simp)),(fun h _=>absurd (((hcl 17 16 (by kernel_rfl) (hcl 16 9 (by kernel_rfl) (hcl 9 2 (by kernel_rfl) hLi)))).symm.trans (un h)) (by simp)),(fun h _=>absurd (((hcl 18 17 (by kernel_rfl) (hcl 17 16 (by kernel_rfl) (hcl 16 9 (by kernel_rfl) (hcl 9 2 (by kernel_rfl) hLi))))).symm.trans (un h)) (by simp)),(fun h=>J.f19 (un h)),(fun h=>absurd (((hcl 20 18 (by kernel_rfl) (hcl 18 17 (by kernel_rfl) (hcl 17 16 (by kernel_rfl) (hcl 16 9 (by kernel_rfl) (hcl 9 2 (by kernel_rfl) hLi)))))).symm.trans (un h)) (by simp)),(fun _=>k_alloc hB _)⟩⟩
    ·skip
     have hN:=(hcl 18 17 (by kernel_rfl) (hcl 17 16 (by kernel_rfl) (hcl 16 9 (by kernel_rfl) (hcl 9 8 (by kernel_rfl) (hcl 8 7 (by kernel_rfl) (hcl 7 6 (by kernel_rfl) (hcl 6 4 (by kernel_rfl) (hcl 4 3 (by kernel_rfl) hLi))))))))
     have hB:=J.b hN
     go_simp
     exact hK _ _ ⟨_,_,_,_,_,_,_,_,_,_,_,_,_,_,_,_,_,_,_,_,rfl,⟨(fun h=>J.f0 (un h)),(fun h=>J.f1 (un h)),(fun h h2=>(J.f2 (un h) (un h2))),(fun _=>rfl),(fun h=>absurd (((hcl 4 3 (by kernel_rfl) hLi)).symm.trans (un h)) (by simp)),(fun h=>J.f5 (un h)),(fun h=>absurd (((hcl 6 4 (by kernel_rfl) (hcl 4 3 (by kernel_rfl) hLi))).symm.trans (un h)) (by simp)),(fun h=>absurd (((hcl 7 6 (by kernel_rfl) (hcl 6 4 (by kernel_rfl) (hcl 4 3 (by kernel_rfl) hLi)))).symm.trans (un h)) (by simp)),(fun h=>absurd (((hcl 8 7 (by kernel_rfl) (hcl 7 6 (by kernel_rfl) (hcl 6 4 (by kernel_rfl) (hcl 4 3 (by kernel_rfl) hLi))))).symm.trans (un h)) (by simp)),(fun h _=>absurd (((hcl 9 8 (by kernel_rfl) (hcl 8 7 (by kernel_rfl) (hcl 7 6 (by kernel_rfl) (hcl 6 4 (by kernel_rfl) (hcl 4 3 (by kernel_rfl) hLi)))))).symm.trans (un h)) (by simp)),(fun h=>J.f10 (un h)),(fun h=>J.f11 (un h)),(fun h=>J.f12 (un h)),(fun h=>J.f13 (un h)),(fun h=>J.f14 (un h)),(fun h=>J.f15 (un h)),(fun h=>absurd (((hcl 16 9 (by kernel_rfl) (hcl 9 8 (by kernel_rfl) (hcl 8 7 (by kernel_rfl) (hcl 7 6 (by kernel_rfl) (hcl 6 4 (by kernel_rfl) (hcl 4 3 (by kernel_rfl) hLi))))))).symm.trans (un h)) (by simp)),(fun h _=>absurd (((hcl 17 16 (by kernel_rfl) (hcl 16 9 (by kernel_rfl) (hcl 9 8 (by kernel_rfl) (hcl 8 7 (by kernel_rfl) (hcl 7 6 (by kernel_rfl) (hcl 6 4 (by kernel_rfl) (hcl 4 3 (by kernel_rfl) hLi)))))))).symm.trans (un h)) (by simp)),(fun h _=>absurd (((hcl 18 17 (by kernel_rfl) (hcl 17 16 (by kernel_rfl) (hcl 16 9 (by kernel_rfl) (hcl 9 8 (by kernel_rfl) (hcl 8 7 (by kernel_rfl) (hcl 7 6 (by kernel_rfl) (hcl 6 4 (by kernel_rfl) (hcl 4 3 (by kernel_rfl) hLi))))))))).symm.trans (un h)) (by simp)),(fun h=>J.f19 (un h)),(fun h=>absurd (((hcl 20 18 (by kernel_rfl) (hcl 18 17 (by kernel_rfl) (hcl 17 16 (by kernel_rfl) (hcl 16 9 (by kernel_rfl) (hcl 9 8 (by kernel_rfl) (hcl 8 7 (by kernel_rfl) (hcl 7 6 (by kernel_rfl) (hcl 6 4 (by kernel_rfl) (hcl 4 3 (by kernel_rfl) hLi)))))))))).symm.trans (un h)) (by simp)),(fun _=>hB)⟩⟩
    ·skip
     have hN:=(hcl 18 17 (by kernel_rfl) (hcl 17 16 (by kernel_rfl) (hcl 16 9 (by kernel_rfl) (hcl 9 8 (by kernel_rfl) (hcl 8 7 (by kernel_rfl) (hcl 7 6 (by kernel_rfl) (hcl 6 4 (by kernel_rfl) hLi)))))))
     have hB:=J.b hN
     obtain rfl:=J.f3 (haft ⟨3,.data⟩ (by simp) rfl)
     obtain ⟨q0,q1,q2,q3,q4⟩:=fiveO ((hB.block _ hltW).trans HTr.out)
     have hl:=Nat.lt_of_lt_of_le hltW hB.size
     go_simp
     exact hK _ _ ⟨_,_,_,_,_,_,_,_,_,_,_,_,_,_,_,_,_,_,_,_,rfl,⟨(fun h=>J.f0 (un h)),(fun h=>J.f1 (un h)),(fun h h2=>(J.f2 (un h) (un h2))),(fun h=>J.f3 (un h)),(fun _=>rfl),(fun h=>J.f5 (un h)),(fun h=>absurd (((hcl 6 4 (by kernel_rfl) hLi)).symm.trans (un h)) (by simp)),(fun h=>absurd (((hcl 7 6 (by kernel_rfl) (hcl 6 4 (by kernel_rfl) hLi))).symm.trans (un h)) (by simp)),(fun h=>absurd (((hcl 8 7 (by kernel_rfl) (hcl 7 6 (by kernel_rfl) (hcl 6 4 (by kernel_rfl) hLi)))).symm.trans (un h)) (by simp)),(fun h _=>absurd (((hcl 9 8 (by kernel_rfl) (hcl 8 7 (by kernel_rfl) (hcl 7 6 (by kernel_rfl) (hcl 6 4 (by kernel_rfl) hLi))))).symm.trans (un h)) (by simp)),(fun h=>J.f10 (un h)),(fun h=>J.f11 (un h)),(fun h=>J.f12 (un h)),(fun h=>J.f13 (un h)),(fun h=>J.f14 (un h)),(fun h=>J.f15 (un h)),(fun h=>absurd (((hcl 16 9 (by kernel_rfl) (hcl 9 8 (by kernel_rfl) (hcl 8 7 (by kernel_rfl) (hcl 7 6 (by kernel_rfl) (hcl 6 4 (by kernel_rfl) hLi)))))).symm.trans (un h)) (by simp)),(fun h _=>absurd (((hcl 17 16 (by kernel_rfl) (hcl 16 9 (by kernel_rfl) (hcl 9 8 (by kernel_rfl) (hcl 8 7 (by kernel_rfl) (hcl 7 6 (by kernel_rfl) (hcl 6 4 (by kernel_rfl) hLi))))))).symm.trans (un h)) (by simp)),(fun h _=>absurd (((hcl 18 17 (by kernel_rfl) (hcl 17 16 (by kernel_rfl) (hcl 16 9 (by kernel_rfl) (hcl 9 8 (by kernel_rfl) (hcl 8 7 (by kernel_rfl) (hcl 7 6 (by kernel_rfl) (hcl 6 4 (by kernel_rfl) hLi)))))))).symm.trans (un h)) (by simp)),(fun h=>J.f19 (un h)),(fun h=>absurd (((hcl 20 18 (by kernel_rfl) (hcl 18 17 (by kernel_rfl) (hcl 17 16 (by kernel_rfl) (hcl 16 9 (by kernel_rfl) (hcl 9 8 (by kernel_rfl) (hcl 8 7 (by kernel_rfl) (hcl 7 6 (by kernel_rfl) (hcl 6 4 (by kernel_rfl) hLi))))))))).symm.trans (un h)) (by simp)),(fun _=>hB)⟩⟩
    ·skip
     have hN:=(hcl 18 17 (by kernel_rfl) (hcl 17 16 (by kernel_rfl) (hcl 16 9 (by kernel_rfl) (hcl 9 8 (by kernel_rfl) (hcl 8 7 (by kernel_rfl) (hcl 7 6 (by kernel_rfl) (hcl 6 5 (by kernel_rfl) hLi)))))))
     have hB:=J.b hN
     go_simp
     exact hK _ _ ⟨_,_,_,_,_,_,_,_,_,_,_,_,_,_,_,_,_,_,_,_,rfl,⟨(fun h=>J.f0 (un h)),(fun h=>J.f1 (un h)),(fun h h2=>(J.f2 (un h) (un h2))),(fun h=>J.f3 (un h)),(fun h=>J.f4 (un h)),(fun _=>rfl),(fun h=>absurd (((hcl 6 5 (by kernel_rfl) hLi)).symm.trans (un h)) (by simp)),(fun h=>absurd (((hcl 7 6 (by kernel_rfl) (hcl 6 5 (by kernel_rfl) hLi))).symm.trans (un h)) (by simp)),(fun h=>absurd (((hcl 8 7 (by kernel_rfl) (hcl 7 6 (by kernel_rfl) (hcl 6 5 (by kernel_rfl) hLi)))).symm.trans (un h)) (by simp)),(fun h _=>absurd (((hcl 9 8 (by kernel_rfl) (hcl 8 7 (by kernel_rfl) (hcl 7 6 (by kernel_rfl) (hcl 6 5 (by kernel_rfl) hLi))))).symm.trans (un h)) (by simp)),(fun h=>J.f10 (un h)),(fun h=>J.f11 (un h)),(fun h=>J.f12 (un h)),(fun h=>J.f13 (un h)),(fun h=>J.f14 (un h)),(fun h=>J.f15 (un h)),(fun h=>absurd (((hcl 16 9 (by kernel_rfl) (hcl 9 8 (by kernel_rfl) (hcl 8 7 (by kernel_rfl) (hcl 7 6 (by kernel_rfl) (hcl 6 5 (by kernel_rfl) hLi)))))).symm.trans (un h)) (by simp)),(fun h _=>absurd (((hcl 17 16 (by kernel_rfl) (hcl 16 9 (by kernel_rfl) (hcl 9 8 (by kernel_rfl) (hcl 8 7 (by kernel_rfl) (hcl 7 6 (by kernel_rfl) (hcl 6 5 (by kernel_rfl) hLi))))))).symm.trans (un h)) (by simp)),(fun h _=>absurd (((hcl 18 17 (by kernel_rfl) (hcl 17 16 (by kernel_rfl) (hcl 16 9 (by kernel_rfl) (hcl 9 8 (by kernel_rfl) (hcl 8 7 (by kernel_rfl) (hcl 7 6 (by kernel_rfl) (hcl 6 5 (by kernel_rfl) hLi)))))))).symm.trans (un h)) (by simp)),(fun h=>J.f19 (un h)),(fun h=>absurd (((hcl 20 18 (by kernel_rfl) (hcl 18 17 (by kernel_rfl) (hcl 17 16 (by kernel_rfl) (hcl 16 9 (by kernel_rfl) (hcl 9 8 (by kernel_rfl) (hcl 8 7 (by kernel_rfl) (hcl 7 6 (by kernel_rfl) (hcl 6 5 (by kernel_rfl) hLi))))))))).symm.trans (un h)) (by simp)),(fun _=>hB)⟩⟩
    ·skip
     have hN:=(hcl 18 17 (by kernel_rfl) (hcl 17 16 (by kernel_rfl) (hcl 16 9 (by kernel_rfl) (hcl 9 8 (by kernel_rfl) (hcl 8 7 (by kernel_rfl) (hcl 7 6 (by kernel_rfl) hLi))))))
     have hB:=J.b hN
     obtain rfl:=J.f4 (haft ⟨4,.data⟩ (by simp) rfl)
     obtain rfl:=J.f5 (haft ⟨5,.data⟩ (by simp) rfl)
     go_simp
     exact hK _ _ ⟨_,_,_,_,_,_,_,_,_,_,_,_,_,_,_,_,_,_,_,_,rfl,⟨(fun h=>J.f0 (un h)),(fun h=>J.f1 (un h)),(fun h h2=>(J.f2 (un h) (un h2))),(fun h=>J.f3 (un h)),(fun h=>J.f4 (un h)),(fun h=>J.f5 (un h)),(fun _=>rfl),(fun h=>absurd (((hcl 7 6 (by kernel_rfl) hLi)).symm.trans (un h)) (by simp)),(fun h=>absurd (((hcl 8 7 (by kernel_rfl) (hcl 7 6 (by kernel_rfl) hLi))).symm.trans (un h)) (by simp)),(fun h _=>absurd (((hcl 9 8 (by kernel_rfl) (hcl 8 7 (by kernel_rfl) (hcl 7 6 (by kernel_rfl) hLi)))).symm.trans (un h)) (by simp)),(fun h=>J.f10 (un h)),(fun h=>J.f11 (un h)),(fun h=>J.f12 (un h)),(fun h=>J.f13 (un h)),(fun h=>J.f14 (un h)),(fun h=>J.f15 (un h)),(fun h=>absurd (((hcl 16 9 (by kernel_rfl) (hcl 9 8 (by kernel_rfl) (hcl 8 7 (by kernel_rfl) (hcl 7 6 (by kernel_rfl) hLi))))).symm.trans (un h)) (by simp)),(fun h _=>absurd (((hcl 17 16 (by kernel_rfl) (hcl 16 9 (by kernel_rfl) (hcl 9 8 (by kernel_rfl) (hcl 8 7 (by kernel_rfl) (hcl 7 6 (by kernel_rfl) hLi)))))).symm.trans (un h)) (by simp)),(fun h _=>absurd (((hcl 18 17 (by kernel_rfl) (hcl 17 16 (by kernel_rfl) (hcl 16 9 (by kernel_rfl) (hcl 9 8 (by kernel_rfl) (hcl 8 7 (by kernel_rfl) (hcl 7 6 (by kernel_rfl) hLi))))))).symm.trans (un h)) (by simp)),(fun h=>J.f19 (un h)),(fun h=>absurd (((hcl 20 18 (by kernel_rfl) (hcl 18 17 (by kernel_rfl) (hcl 17 16 (by kernel_rfl) (hcl 16 9 (by kernel_rfl) (hcl 9 8 (by kernel_rfl) (hcl 8 7 (by kernel_rfl) (hcl 7 6 (by kernel_rfl) hLi)))))))).symm.trans (un h)) (by simp)),(fun _=>hB)⟩⟩
    ·skip
     have hN:=(hcl 18 17 (by kernel_rfl) (hcl 17 16 (by kernel_rfl) (hcl 16 9 (by kernel_rfl) (hcl 9 8 (by kernel_rfl) (hcl 8 7 (by kernel_rfl) hLi)))))
     have hB:=J.b hN
     obtain rfl:=J.f6 (haft ⟨6,.data⟩ (by simp) rfl)
     go_simp
     exact hK _ _ ⟨_,_,_,_,_,_,_,_,_,_,_,_,_,_,_,_,_,_,_,_,rfl,⟨(fun h=>J.f0 (un h)),(fun h=>J.f1 (un h)),(fun h h2=>(J.f2 (un h) (un h2))),(fun h=>J.f3 (un h)),(fun h=>J.f4 (un h)),(fun h=>J.f5 (un h)),(fun h=>J.f6 (un h)),(fun _=>rfl),(fun h=>absurd (((hcl 8 7 (by kernel_rfl) hLi)).symm.trans (un h)) (by simp)),(fun h _=>absurd (((hcl 9 8 (by kernel_rfl) (hcl 8 7 (by kernel_rfl) hLi))).symm.trans (un h)) (by simp)),(fun h=>J.f10 (un h)),(fun h=>J.f11 (un h)),(fun h=>J.f12 (un h)),(fun h=>J.f13 (un h)),(fun h=>J.f14 (un h)),(fun h=>J.f15 (un h)),(fun h=>absurd (((hcl 16 9 (by kernel_rfl) (hcl 9 8 (by kernel_rfl) (hcl 8 7 (by kernel_rfl) hLi)))).symm.trans (un h)) (by simp)),(fun h _=>absurd (((hcl 17 16 (by kernel_rfl) (hcl 16 9 (by kernel_rfl) (hcl 9 8 (by kernel_rfl) (hcl 8 7 (by kernel_rfl) hLi))))).symm.trans (un h)) (by simp)),(fun h _=>absurd (((hcl 18 17 (by kernel_rfl) (hcl 17 16 (by kernel_rfl) (hcl 16 9 (by kernel_rfl) (hcl 9 8 (by kernel_rfl) (hcl 8 7 (by kernel_rfl) hLi)))))).symm.trans (un h)) (by simp)),(fun h=>J.f19 (un h)),(fun h=>absurd (((hcl 20 18 (by kernel_rfl) (hcl 18 17 (by kernel_rfl) (hcl 17 16 (by kernel_rfl) (hcl 16 9 (by kernel_rfl) (hcl 9 8 (by kernel_rfl) (hcl 8 7 (by kernel_rfl) hLi))))))).symm.trans (un h)) (by simp)),(fun _=>hB)⟩⟩
    ·skip
     have hN:=(hcl 18 17 (by kernel_rfl) (hcl 17 16 (by kernel_rfl) (hcl 16 9 (by kernel_rfl) (hcl 9 8 (by kernel_rfl) hLi))))
     have hB:=J.b hN
     obtain rfl:=J.f7 (haft ⟨7,.data⟩ (by simp) rfl)
     have hq:=(hB.cell (p:=⟨bq,oq+k * 2,none⟩) hlq).trans HQ0.out
     go_simp
     exact hK _ _ ⟨_,_,_,_,_,_,_,_,_,_,_,_,_,_,_,_,_,_,_,_,rfl,⟨(fun h=>J.f0 (un h)),(fun h=>J.f1 (un h)),(fun h h2=>(J.f2 (un h) (un h2))),(fun h=>J.f3 (un h)),(fun h=>J.f4 (un h)),(fun h=>J.f5 (un h)),(fun h=>J.f6 (un h)),(fun h=>J.f7 (un h)),(fun _=>rfl),(fun h _=>absurd (((hcl 9 8 (by kernel_rfl) hLi)).symm.trans (un h)) (by simp)),(fun h=>J.f10 (un h)),(fun h=>J.f11 (un h)),(fun h=>J.f12 (un h)),(fun h=>J.f13 (un h)),(fun h=>J.f14 (un h)),(fun h=>J.f15 (un h)),(fun h=>absurd (((hcl 16 9 (by kernel_rfl) (hcl 9 8 (by kernel_rfl) hLi))).symm.trans (un h)) (by simp)),(fun h _=>absurd (((hcl 17 16 (by kernel_rfl) (hcl 16 9 (by kernel_rfl) (hcl 9 8 (by kernel_rfl) hLi)))).symm.trans (un h)) (by simp)),(fun h _=>absurd (((hcl 18 17 (by kernel_rfl) (hcl 17 16 (by kernel_rfl) (hcl 16 9 (by kernel_rfl) (hcl 9 8 (by kernel_rfl) hLi))))).symm.trans (un h)) (by simp)),(fun h=>J.f19 (un h)),(fun h=>absurd (((hcl 20 18 (by kernel_rfl) (hcl 18 17 (by kernel_rfl) (hcl 17 16 (by kernel_rfl) (hcl 16 9 (by kernel_rfl) (hcl 9 8 (by kernel_rfl) hLi)))))).symm.trans (un h)) (by simp)),(fun _=>hB)⟩⟩
    ·skip
     have hN:=(hcl 18 17 (by kernel_rfl) (hcl 17 16 (by kernel_rfl) (hcl 16 9 (by kernel_rfl) hLi)))
     have hB:=J.b hN
     have hO:=J.f2 (haft ⟨2,.data⟩ (by simp) rfl) hLi
     obtain rfl:=J.f8 (haft ⟨8,.data⟩ (by simp) rfl)
     rw [if_pos (by rfl)]
     refine wp_append_src _ (.tmp 25) (.tmp 31) 50 rfl wr.heap.size 41 i3 _ 11 96 Try.underlying50 hi3 hw0 hw1 hw2 rfl (by decide) _ _ _ rfl hO au m cu (cs.flatMap cellVs) rfl HAs.out HFl.out (HNw.out W hB) (one_cells cs) (by unfold maxLen;omega) (by omega) hB.size ?_
     intro v' w5 hown' hgrow'
     rw [Nat.zero_add,List.nil_append] at hown'
     obtain ⟨a9,c9,rfl,_⟩:=row_form hown'
     have hownC:OwnC w5 wr.heap.size (.slice a9 m c9) cs:=by rw [← HMl.out] at hown' ⊢;exact hown'
     exact hK _ _ ⟨_,_,_,_,_,_,_,_,_,_,_,_,_,_,_,_,_,_,_,_,rfl,⟨(fun h=>J.f0 (un h)),(fun h=>J.f1 (un h)),(fun _ h=>absurd (h.symm.trans upd_self) (by simp)),(fun h=>J.f3 (un h)),(fun h=>J.f4 (un h)),(fun h=>J.f5 (un h)),(fun h=>J.f6 (un h)),(fun h=>J.f7 (un h)),(fun h=>J.f8 (un h)),(fun _ _=>⟨a9,c9,rfl,hownC⟩),(fun h=>J.f10 (un h)),(fun h=>J.f11 (un h)),(fun h=>J.f12 (un h)),(fun h=>J.f13 (un h)),(fun h=>J.f14 (un h)),(fun h=>J.f15 (un h)),(fun h=>absurd (((hcl 16 9 (by kernel_rfl) hLi)).symm.trans (un h)) (by simp)),(fun h _=>absurd (((hcl 17 16 (by kernel_rfl) (hcl 16 9 (by kernel_rfl) hLi))).symm.trans (un h)) (by simp)),(fun h _=>absurd (((hcl 18 17 (by kernel_rfl) (hcl 17 16 (by kernel_rfl) (hcl 16 9 (by kernel_rfl) hLi)))).symm.trans (un h)) (by simp)),(fun h=>J.f19 (un h)),(fun h=>absurd (((hcl 20 18 (by kernel_rfl) (hcl 18 17 (by kernel_rfl) (hcl 17 16 (by kernel_rfl) (hcl 16 9 (by kernel_rfl) hLi))))).symm.trans (un h)) (by simp)),(fun _=>hB.grown hgrow' hB.size (fun q hq=>(hO.lt q hq).1))⟩⟩
    ·skip
     have hN:=(hcl 18 17 (by kernel_rfl) (hcl 17 16 (by kernel_rfl) (hcl 16 15 (by kernel_rfl) (hcl 15 14 (by kernel_rfl) (hcl 14 13 (by kernel_rfl) (hcl 13 11 (by kernel_rfl) (hcl 11 10 (by kernel_rfl) hLi)))))))
     have hB:=J.b hN
     go_simp
     exact hK _ _ ⟨_,_,_,_,_,_,_,_,_,_,_,_,_,_,_,_,_,_,_,_,rfl,⟨(fun h=>J.f0 (un h)),(fun h=>J.f1 (un h)),(fun h h2=>(J.f2 (un h) (un h2))),(fun h=>J.f3 (un h)),(fun h=>J.f4 (un h)),(fun h=>J.f5 (un h)),(fun h=>J.f6 (un h)),(fun h=>J.f7 (un h)),(fun h=>J.f8 (un h)),(fun h h2=>(J.f9 (un h) (un h2))),(fun _=>rfl),(fun h=>absurd (((hcl 11 10 (by kernel_rfl) hLi)).symm.trans (un h)) (by simp)),(fun h=>J.f12 (un h)),(fun h=>absurd (((hcl 13 11 (by kernel_rfl) (hcl 11 10 (by kernel_rfl) hLi))).symm.trans (un h)) (by simp)),(fun h=>absurd (((hcl 14 13 (by kernel_rfl) (hcl 13 11 (by kernel_rfl) (hcl 11 10 (by kernel_rfl) hLi)))).symm.trans (un h)) (by simp)),(fun h=>absurd (((hcl 15 14 (by kernel_rfl) (hcl 14 13 (by kernel_rfl) (hcl 13 11 (by kernel_rfl) (hcl 11 10 (by kernel_rfl) hLi))))).symm.trans (un h)) (by simp)),(fun h=>absurd (((hcl 16 15 (by kernel_rfl) (hcl 15 14 (by kernel_rfl) (hcl 14 13 (by kernel_rfl) (hcl 13 11 (by kernel_rfl) (hcl 11 10 (by kernel_rfl) hLi)))))).symm.trans (un h)) (by simp)),(fun h _=>absurd (((hcl 17 16 (by kernel_rfl) (hcl 16 15 (by kernel_rfl) (hcl 15 14 (by kernel_rfl) (hcl 14 13 (by kernel_rfl) (hcl 13 11 (by kernel_rfl) (hcl 11 10 (by kernel_rfl) hLi))))))).symm.trans (un h)) (by simp)),(fun h _=>absurd (((hcl 18 17 (by kernel_rfl) (hcl 17 16 (by kernel_rfl) (hcl 16 15 (by kernel_rfl) (hcl 15 14 (by kernel_rfl) (hcl 14 13 (by kernel_rfl) (hcl 13 11 (by kernel_rfl) (hcl 11 10 (by kernel_rfl) hLi)))))))).symm.trans (un h)) (by simp)),(fun h=>J.f19 (un h)),(fun h=>absurd (((hcl 20 18 (by kernel_rfl) (hcl 18 17 (by kernel_rfl) (hcl 17 16 (by kernel_rfl) (hcl 16 15 (by kernel_rfl) (hcl 15 14 (by kernel_rfl) (hcl 14 13 (by kernel_rfl) (hcl 13 11 (by kernel_rfl) (hcl 11 10 (by kernel_rfl) hLi))))))))).symm.trans (un h)) (by simp)),(fun _=>hB)⟩⟩
    ·skip
     have hN:=(hcl 18 17 (by kernel_rfl) (hcl 17 16 (by kernel_rfl) (hcl 16 15 (by kernel_rfl) (hcl 15 14 (by kernel_rfl) (hcl 14 13 (by kernel_rfl) (hcl 13 11 (by kernel_rfl) hLi))))))
     have hB:=J.b hN
     obtain rfl:=J.f10 (haft ⟨10,.data⟩ (by simp) rfl)
     obtain ⟨q0,q1,q2,q3,q4⟩:=fiveO ((hB.block _ hltW).trans HTr.out)
     have hl:=Nat.lt_of_lt_of_le hltW hB.size
     go_simp
     exact hK _ _ ⟨_,_,_,_,_,_,_,_,_,_,_,_,_,_,_,_,_,_,_,_,rfl,⟨(fun h=>J.f0 (un h)),(fun h=>J.f1 (un h)),(fun h h2=>(J.f2 (un h) (un h2))),(fun h=>J.f3 (un h)),(fun h=>J.f4 (un h)),(fun h=>J.f5 (un h)),(fun h=>J.f6 (un h)),(fun h=>J.f7 (un h)),(fun h=>J.f8 (un h)),(fun h h2=>(J.f9 (un h) (un h2))),(fun h=>J.f10 (un h)),(fun _=>rfl),(fun h=>J.f12 (un h)),(fun h=>absurd (((hcl 13 11 (by kernel_rfl) hLi)).symm.trans (un h)) (by simp)),(fun h=>absurd (((hcl 14 13 (by kernel_rfl) (hcl 13 11 (by kernel_rfl) hLi))).symm.trans (un h)) (by simp)),(fun h=>absurd (((hcl 15 14 (by kernel_rfl) (hcl 14 13 (by kernel_rfl) (hcl 13 11 (by kernel_rfl) hLi)))).symm.trans (un h)) (by simp)),(fun h=>absurd (((hcl 16 15 (by kernel_rfl) (hcl 15 14 (by kernel_rfl) (hcl 14 13 (by kernel_rfl) (hcl 13 11 (by kernel_rfl) hLi))))).symm.trans (un h)) (by simp)),(fun h _=>absurd (((hcl 17 16 (by kernel_rfl) (hcl 16 15 (by kernel_rfl) (hcl 15 14 (by kernel_rfl) (hcl 14 13 (by kernel_rfl) (hcl 13 11 (by kernel_rfl) hLi)))))).symm.trans (un h)) (by simp)),(fun h _=>absurd (((hcl 18 17 (by kernel_rfl) (hcl 17 16 (by kernel_rfl) (hcl 16 15 (by kernel_rfl) (hcl 15 14 (by kernel_rfl) (hcl 14 13 (by kernel_rfl) (hcl 13 11 (by kernel_rfl) hLi))))))).symm.trans (un h)) (by simp)),(fun h=>J.f19 (un h)),(fun h=>absurd (((hcl 20 18 (by kernel_rfl) (hcl 18 17 (by kernel_rfl) (hcl 17 16 (by kernel_rfl) (hcl 16 15 (by kernel_rfl) (hcl 15 14 (by kernel_rfl) (hcl 14 13 (by kernel_rfl) (hcl 13 11 (by kernel_rfl) hLi)))))))).symm.trans (un h)) (by simp)),(fun _=>hB)⟩⟩
    ·skip
     have hN:=(hcl 18 17 (by kernel_rfl) (hcl 17 16 (by kernel_rfl) (hcl 16 15 (by kernel_rfl) (hcl 15 14 (by kernel_rfl) (hcl 14 13 (by kernel_rfl) (hcl 13 12 (by kernel_rfl) hLi))))))
     have hB:=J.b hN
     go_simp
     exact hK _ _ ⟨_,_,_,_,_,_,_,_,_,_,_,_,_,_,_,_,_,_,_,_,rfl,⟨(fun h=>J.f0 (un h)),(fun h=>J.f1 (un h)),(fun h h2=>(J.f2 (un h) (un h2))),(fun h=>J.f3 (un h)),(fun h=>J.f4 (un h)),(fun h=>J.f5 (un h)),(fun h=>J.f6 (un h)),(fun h=>J.f7 (un h)),(fun h=>J.f8 (un h)),(fun h h2=>(J.f9 (un h) (un h2))),(fun h=>J.f10 (un h)),(fun h=>J.f11 (un h)),(fun _=>rfl),(fun h=>absurd (((hcl 13 12 (by kernel_rfl) hLi)).symm.trans (un h)) (by simp)),(fun h=>absurd (((hcl 14 13 (by kernel_rfl) (hcl 13 12 (by kernel_rfl) hLi))).symm.trans (un h)) (by simp)),(fun h=>absurd (((hcl 15 14 (by kernel_rfl) (hcl 14 13 (by kernel_rfl) (hcl 13 12 (by kernel_rfl) hLi)))).symm.trans (un h)) (by simp)),(fun h=>absurd (((hcl 16 15 (by kernel_rfl) (hcl 15 14 (by kernel_rfl) (hcl 14 13 (by kernel_rfl) (hcl 13 12 (by kernel_rfl) hLi))))).symm.trans (un h)) (by simp)),(fun h _=>absurd (((hcl 17 16 (by kernel_rfl) (hcl 16 15 (by kernel_rfl) (hcl 15 14 (by kernel_rfl) (hcl 14 13 (by kernel_rfl) (hcl 13 12 (by kernel_rfl) hLi)))))).symm.trans (un h)) (by simp)),(fun h _=>absurd (((hcl 18 17 (by kernel_rfl) (hcl 17 16 (by kernel_rfl) (hcl 16 15 (by kernel_rfl) (hcl 15 14 (by kernel_rfl) (hcl 14 13 (by kernel_rfl) (hcl 13 12 (by kernel_rfl) hLi))))))).symm.trans (un h)) (by simp)),(fun h=>J.f19 (un h)),(fun h=>absurd (((hcl 20 18 (by kernel_rfl) (hcl 18 17 (by kernel_rfl) (hcl 17 16 (by kernel_rfl) (hcl 16 15 (by kernel_rfl) (hcl 15 14 (by kernel_rfl) (hcl 14 13 (by kernel_rfl) (hcl 13 12 (by kernel_rfl) hLi)))))))).symm.trans (un h)) (by simp)),(fun _=>hB)⟩⟩
    ·skip
     have hN:=(hcl 18 17 (by kernel_rfl) (hcl 17 16 (by kernel_rfl) (hcl 16 15 (by kernel_rfl) (hcl 15 14 (by kernel_rfl) (hcl 14 13 (by kernel_rfl) hLi)))))
     have hB:=J.b hN
     obtain rfl:=J.f11 (haft ⟨11,.data⟩ (by simp) rfl)
     obtain rfl:=J.f12 (haft ⟨12,.data⟩ (by simp) rfl)
     go_simp
     exact hK _ _ ⟨_,_,_,_,_,_,_,_,_,_,_,_,_,_,_,_,_,_,_,_,rfl,⟨(fun h=>J.f0 (un h)),(fun h=>J.f1 (un h)),(fun h h2=>(J.f2 (un h) (un h2))),(fun h=>J.f3 (un h)),(fun h=>J.f4 (un h)),(fun h=>J.f5 (un h)),(fun h=>J.f6 (un h)),(fun h=>J.f7 (un h)),(fun h=>J.f8 (un h)),(fun h h2=>(J.f9 (un h) (un h2))),(fun h=>J.f10 (un h)),(fun h=>J.f11 (un h)),(fun h=>J.f12 (un h)),(fun _=>rfl),(fun h=>absurd (((hcl 14 13 (by kernel_rfl) hLi)).symm.trans (un h)) (by simp)),(fun h=>absurd (((hcl 15 14 (by kernel_rfl) (hcl 14 13 (by kernel_rfl) hLi))).symm.trans (un h)) (by simp)),(fun h=>absurd (((hcl 16 15 (by kernel_rfl) (hcl 15 14 (by kernel_rfl) (hcl 14 13 (by kernel_rfl) hLi)))).symm.trans (un h)) (by simp)),(fun h _=>absurd (((hcl 17 16 (by kernel_rfl) (hcl 16 15 (by kernel_rfl) (hcl 15 14 (by kernel_rfl) (hcl 14 13 (by kernel_rfl) hLi))))).symm.trans (un h)) (by simp)),(fun h _=>absurd (((hcl 18 17 (by kernel_rfl) (hcl 17 16 (by kernel_rfl) (hcl 16 15 (by kernel_rfl) (hcl 15 14 (by kernel_rfl) (hcl 14 13 (by kernel_rfl) hLi)))))).symm.trans (un h)) (by simp)),(fun h=>J.f19 (un h)),(fun h=>absurd (((hcl 20 18 (by kernel_rfl) (hcl 18 17 (by kernel_rfl) (hcl 17 16 (by kernel_rfl) (hcl 16 15 (by kernel_rfl) (hcl 15 14 (by kernel_rfl) (hcl 14 13 (by kernel_rfl) hLi))))))).symm.trans (un h)) (by simp)),(fun _=>hB)⟩⟩
    ·skip
     have hN:=(hcl 18 17 (by kernel_rfl) (hcl 17 16 (by kernel_rfl) (hcl 16 15 (by kernel_rfl) (hcl 15 14 (by kernel_rfl) hLi))))
     have hB:=J.b hN
     obtain rfl:=J.f13 (haft ⟨13,.data⟩ (by simp) rfl)
     go_simp
     exact hK _ _ ⟨_,_,_,_,_,_,_,_,_,_,_,_,_,_,_,_,_,_,_,_,rfl,⟨(fun h=>J.f0 (un h)),(fun h=>J.f1 (un h)),(fun h h2=>(J.f2 (un h) (un h2))),(fun h=>J.f3 (un h)),(fun h=>J.f4 (un h)),(fun h=>J.f5 (un h)),(fun h=>J.f6 (un h)),(fun h=>J.f7 (un h)),(fun h=>J.f8 (un h)),(fun h h2=>(J.f9 (un h) (un h2))),(fun h=>J.f10 (un h)),(fun h=>J.f11 (un h)),(fun h=>J.f12 (un h)),(fun h=>J.f13 (un h)),(fun _=>rfl),(fun h=>absurd (((hcl 15 14 (by kernel_rfl) hLi)).symm.trans (un h)) (by simp)),(fun h=>absurd (((hcl 16 15 (by kernel_rfl) (hcl 15 14 (by kernel_rfl) hLi))).symm.trans (un h)) (by simp)),(fun h _=>absurd (((hcl 17 16 (by kernel_rfl) (hcl 16 15 (by kernel_rfl) (hcl 15 14 (by kernel_rfl) hLi)))).symm.trans (un h)) (by simp)),(fun h _=>absurd (((hcl 18 17 (by kernel_rfl) (hcl 17 16 (by kernel_rfl) (hcl 16 15 (by kernel_rfl) (hcl 15 14 (by kernel_rfl) hLi))))).symm.trans (un h)) (by simp)),(fun h=>J.f19 (un h)),(fun h=>absurd (((hcl 20 18 (by kernel_rfl) (hcl 18 17 (by kernel_rfl) (hcl 17 16 (by kernel_rfl) (hcl 16 15 (by kernel_rfl) (hcl 15 14 (by kernel_rfl) hLi)))))).symm.trans (un h)) (by simp)),(fun _=>hB)⟩⟩
    ·skip
     have hN:=(hcl 18 17 (by kernel_rfl) (hcl 17 16 (by kernel_rfl) (hcl 16 15 (by kernel_rfl) hLi)))
     have hB:=J.b hN
     obtain rfl:=J.f14 (haft ⟨14,.data⟩ (by simp) rfl)
     have hq:=(hB.cell (p:=⟨bq,oq+k * 2+1,none⟩) hlq).trans HQ1.out
     go_simp
     exact hK _ _ ⟨_,_,_,_,_,_,_,_,_,_,_,_,_,_,_,_,_,_,_,_,rfl,⟨(fun h=>J.f0 (un h)),(fun h=>J.f1 (un h)),(fun h h2=>(J.f2 (un h) (un h2))),(fun h=>J.f3 (un h)),(fun h=>J.f4 (un h)),(fun h=>J.f5 (un h)),(fun h=>J.f6 (un h)),(fun h=>J.f7 (un h)),(fun h=>J.f8 (un h)),(fun h h2=>(J.f9 (un h) (un h2))),(fun h=>J.f10 (un h)),(fun h=>J.f11 (un h)),(fun h=>J.f12 (un h)),(fun h=>J.f13 (un h)),(fun h=>J.f14 (un h)),(fun _=>rfl),(fun h=>absurd (((hcl 16 15 (by kernel_rfl) hLi)).symm.trans (un h)) (by simp)),(fun h _=>absurd (((hcl 17 16 (by kernel_rfl) (hcl 16 15 (by kernel_rfl) hLi))).symm.trans (un h)) (by simp)),(fun h _=>absurd (((hcl 18 17 (by kernel_rfl) (hcl 17 16 (by kernel_rfl) (hcl 16 15 (by kernel_rfl) hLi)))).symm.trans (un h)) (by simp)),(fun h=>J.f19 (un h)),(fun h=>absurd (((hcl 20 18 (by kernel_rfl) (hcl 18 17 (by kernel_rfl) (hcl 17 16 (by kernel_rfl) (hcl 16 15 (by kernel_rfl) hLi))))).symm.trans (un h)) (by simp)),(fun _=>hB)⟩⟩
    ·skip
     have hN:=(hcl 18 17 (by kernel_rfl) (hcl 17 16 (by kernel_rfl) hLi))
     have hB:=J.b hN
     obtain ⟨a9,c9,rfl,hxx⟩:=J.f9 (haft ⟨9,.data⟩ (by simp) rfl) hN
     clear hxx
     obtain rfl:=J.f15 (haft ⟨15,.data⟩ (by simp) rfl)
     go_simp
     exact hK _ _ ⟨_,_,_,_,_,_,_,_,_,_,_,_,_,_,_,_,_,_,_,_,rfl,⟨(fun h=>J.f0 (un h)),(fun h=>J.f1 (un h)),(fun h h2=>(J.f2 (un h) (un h2))),(fun h=>J.f3 (un h)),(fun h=>J.f4 (un h)),(fun h=>J.f5 (un h)),(fun h=>J.f6 (un h)),(fun h=>J.f7 (un h)),(fun h=>J.f8 (un h)),(fun h h2=>(J.f9 (un h) (un h2))),(fun h=>J.f10 (un h)),(fun h=>J.f11 (un h)),(fun h=>J.f12 (un h)),(fun h=>J.f13 (un h)),(fun h=>J.f14 (un h)),(fun h=>J.f15 (un h)),(fun _=>⟨a9,c9,rfl,rfl⟩),(fun h _=>absurd (((hcl 17 16 (by kernel_rfl) hLi)).symm.trans (un h)) (by simp)),(fun h _=>absurd (((hcl 18 17 (by kernel_rfl) (hcl 17 16 (by kernel_rfl) hLi))).symm.trans (un h)) (by simp)),(fun h=>J.f19 (un h)),(fun h=>absurd (((hcl 20 18 (by kernel_rfl) (hcl 18 17 (by kernel_rfl) (hcl 17 16 (by kernel_rfl) hLi)))).symm.trans (un h)) (by simp)),(fun _=>hB)⟩⟩
    ·skip
     have hN:=(hcl 18 17 (by kernel_rfl) hLi)
     have hB:=J.b hN
     obtain ⟨a9,c9,rfl,rfl⟩:=J.f16 (haft ⟨16,.data⟩ (by simp) rfl)
     go_simp
     exact hK _ _ ⟨_,_,_,_,_,_,_,_,_,_,_,_,_,_,_,_,_,_,_,_,rfl,⟨(fun h=>J.f0 (un h)),(fun h=>J.f1 (un h)),(fun h h2=>row_alloc (J.f2 (un h) (un h2)) _),(fun h=>J.f3 (un h)),(fun h=>J.f4 (un h)),(fun h=>J.f5 (un h)),(fun h=>J.f6 (un h)),(fun h=>J.f7 (un h)),(fun h=>J.f8 (un h)),(fun h h2=>(let ⟨a,c,e,o⟩:=(J.f9 (un h) (un h2));⟨a,c,e,row_alloc o _⟩)),(fun h=>J.f10 (un h)),(fun h=>J.f11 (un h)),(fun h=>J.f12 (un h)),(fun h=>J.f13 (un h)),(fun h=>J.f14 (un h)),(fun h=>J.f15 (un h)),(fun h=>J.f16 (un h)),(fun _ _=>⟨_,a9,c9,rfl,rfl,newestB _ _⟩),(fun h _=>absurd (((hcl 18 17 (by kernel_rfl) hLi)).symm.trans (un h)) (by simp)),(fun h=>J.f19 (un h)),(fun h=>absurd (((hcl 20 18 (by kernel_rfl) (hcl 18 17 (by kernel_rfl) hLi))).symm.trans (un h)) (by simp)),(fun _=>k_alloc hB _)⟩⟩
    ·skip
     have hN:=hLi
     have hB:=J.b hN
     obtain rfl:=J.f1 (haft ⟨1,.data⟩ (by simp) rfl)
     have hD9:L 9=true:=eq_true_of_ne_false (fun h3=>by have h4:=hcl 17 16 (by kernel_rfl) (hcl 16 9 (by kernel_rfl) h3);rw [haft ⟨17,.data⟩ (by simp) rfl] at h4;cases h4)
     obtain ⟨g,a9,c9,rfl,rfl,hg⟩:=J.f17 (haft ⟨17,.data⟩ (by simp) rfl) hLi
     obtain ⟨_,_,hee,hC⟩:=J.f9 hD9 hLi
     clear hee
     have hOR:=HOR.out.kept hB
     have hO:=hOR.own
     rw [HUl.out] at hO
     have hXw:=(hB.block xb hlx).trans HX.out
     rw [if_pos (by rfl)]
     refine wp_append_own _ (.tmp 24) (.tmp 40) 35 rfl V1.heap.size 52 i2 _ 2 32 Try.underlying35 hi2 hx0 hx1 hx2 rfl (by decide) _ _ _ rfl hO ⟨g,0,none⟩ 1 1 [.slice a9 m c9,.bool wh] rfl rfl (news_at hg) (by simp [Value.oneCell']) (by unfold maxLen;omega) (by omega) (Nat.le_trans HBs.out hB.size) ?_
     intro v' w5 hown' hgrow' _
     obtain ⟨a8,c8,rfl,_⟩:=row_form hown'
     have hpush:OwnR w5 V1.heap.size (.slice a8 (k+1) c8) (ur ++ [(.slice a9 m c9,⟨cs,wh⟩)]):=hOR.push hgrow' (by rw [HUl.out];exact hown') (row_base hC HBs.out) (fun p hp=>HAp.out hC p hp)
     have hbk:Bk xb V1 w5:=(HBk.out.trans (Bk.of_below hB)).grownO hgrow' (fun q hq=>(hO.lt q hq).1)
     have hx5:=grown_block hO hgrow' hXw (by decide)
     exact hK _ _ ⟨_,_,_,_,_,_,_,_,_,_,_,_,_,_,_,_,_,_,_,_,rfl,⟨(fun h=>J.f0 (un h)),(fun h=>J.f1 (un h)),(fun h h2=>absurd ((un h2).symm.trans hD9) (by simp)),(fun h=>J.f3 (un h)),(fun h=>J.f4 (un h)),(fun h=>J.f5 (un h)),(fun h=>J.f6 (un h)),(fun h=>J.f7 (un h)),(fun h=>J.f8 (un h)),(fun _ h=>absurd (h.symm.trans upd_self) (by simp)),(fun h=>J.f10 (un h)),(fun h=>J.f11 (un h)),(fun h=>J.f12 (un h)),(fun h=>J.f13 (un h)),(fun h=>J.f14 (un h)),(fun h=>J.f15 (un h)),(fun h=>J.f16 (un h)),(fun _ h=>absurd (h.symm.trans upd_self) (by simp)),(fun _ _=>⟨a8,c8,rfl,hpush,hbk,hx5⟩),(fun h=>J.f19 (un h)),(fun h=>absurd (((hcl 20 18 (by kernel_rfl) hLi)).symm.trans (un h)) (by simp)),(fun h=>absurd (h.symm.trans upd_self) (by simp))⟩⟩
    ·skip
     go_simp
     exact hK _ _ ⟨_,_,_,_,_,_,_,_,_,_,_,_,_,_,_,_,_,_,_,_,rfl,⟨(fun h=>J.f0 (un h)),(fun h=>J.f1 (un h)),(fun h h2=>(J.f2 (un h) (un h2))),(fun h=>J.f3 (un h)),(fun h=>J.f4 (un h)),(fun h=>J.f5 (un h)),(fun h=>J.f6 (un h)),(fun h=>J.f7 (un h)),(fun h=>J.f8 (un h)),(fun h h2=>(J.f9 (un h) (un h2))),(fun h=>J.f10 (un h)),(fun h=>J.f11 (un h)),(fun h=>J.f12 (un h)),(fun h=>J.f13 (un h)),(fun h=>J.f14 (un h)),(fun h=>J.f15 (un h)),(fun h=>J.f16 (un h)),(fun h h2=>(J.f17 (un h) (un h2))),(fun h h2=>(J.f18 (un h) (un h2))),(fun _=>rfl),(fun h=>absurd (((hcl 20 19 (by kernel_rfl) hLi)).symm.trans (un h)) (by simp)),(fun h=>J.b (un h))⟩⟩
    ·skip
     have h18:L 18=true:=(haft ⟨18,.data⟩ (by simp) rfl)
     have hD17:L 17=true:=eq_true_of_ne_false (fun h3=>by have h4:=hcl 18 17 (by kernel_rfl) h3;rw [haft ⟨18,.data⟩ (by simp) rfl] at h4;cases h4)
     have hD9:L 9=true:=eq_true_of_ne_false (fun h3=>by have h4:=hcl 17 16 (by kernel_rfl) (hcl 16 9 (by kernel_rfl) h3);rw [hD17] at h4;cases h4)
     obtain ⟨a8,c8,rfl,hp8,hk8,hx8⟩:=J.f18 (haft ⟨18,.data⟩ (by simp) rfl) hLi
     obtain rfl:=J.f19 (haft ⟨19,.data⟩ (by simp) rfl)
     obtain ⟨d0,d1,d2,d3,d4⟩:=fiveO hx8
     have fz:∀ p,W.frozen? ⟨xb,p,none⟩=false:=fun p=>freeB hx8
     have hp9:=hp8.since (Since.set (Since.refl V1.heap.size W) (p:=⟨xb,3,none⟩) hxB (.slice a8 (k+1) c8))
     go_simp
     exact hK _ _ ⟨_,_,_,_,_,_,_,_,_,_,_,_,_,_,_,_,_,_,_,_,rfl,⟨(fun h=>J.f0 (un h)),(fun h=>J.f1 (un h)),(fun h h2=>absurd ((un h2).symm.trans hD9) (by simp)),(fun h=>J.f3 (un h)),(fun h=>J.f4 (un h)),(fun h=>J.f5 (un h)),(fun h=>J.f6 (un h)),(fun h=>J.f7 (un h)),(fun h=>J.f8 (un h)),(fun h h2=>absurd ((un h2).symm.trans h18) (by simp)),(fun h=>J.f10 (un h)),(fun h=>J.f11 (un h)),(fun h=>J.f12 (un h)),(fun h=>J.f13 (un h)),(fun h=>J.f14 (un h)),(fun h=>J.f15 (un h)),(fun h=>J.f16 (un h)),(fun h h2=>absurd ((un h2).symm.trans h18) (by simp)),(fun _ h=>absurd (h.symm.trans upd_self) (by simp)),(fun h=>J.f19 (un h)),(fun _=>⟨a8,c8,_,by simp,hp9,hk8.set (.inl rfl) _,setB hx8 _⟩),(fun h=>absurd ((un h).symm.trans h18) (by simp))⟩⟩
 case hs =>
  intro L act W i o hJ hcl ho hLi haft K hK
  obtain ⟨v3,v5,v6,v7,v8,v9,v10,v11,v12,v13,v14,v15,ha,J⟩:=hJ
  subst ha
  have hi':i < 13:=by
   have:=(Array.getElem?_eq_some_iff.1 ho).1
   simpa using this
  rcases (by omega:i=0∨i=1∨i=2∨i=3∨i=4∨i=5∨i=6∨i=7∨i=8∨i=9∨i=10∨i=11∨i=12) with rfl | rfl | rfl | rfl | rfl | rfl | rfl | rfl | rfl | rfl | rfl | rfl | rfl
  all_goals
   simp only [List.getElem?_toArray,List.getElem?_cons_zero,List.getElem?_cons_succ,Option.some.injEq] at ho
   subst ho
   clear hi'
  ·skip
   have hN:=(hcl 12 10 (by kernel_rfl) (hcl 10 3 (by kernel_rfl) (hcl 3 0 (by kernel_rfl) hLi)))
   have hB:=J.b hN
   go_simp
   exact hK _ _ ⟨_,_,_,_,_,_,_,_,_,_,_,_,rfl,⟨(fun _ _=>World.ownsRow_made W #[] 0 hB.size (Nat.zero_le _) (by simp)),(fun h=>J.f1 (un h)),(fun h=>J.f2 (un h)),(fun h _=>absurd (((hcl 3 0 (by kernel_rfl) hLi)).symm.trans (un h)) (by simp)),(fun h=>J.f4 (un h)),(fun h=>J.f5 (un h)),(fun h=>J.f6 (un h)),(fun h=>J.f7 (un h)),(fun h=>J.f8 (un h)),(fun h=>J.f9 (un h)),(fun h=>absurd (((hcl 10 3 (by kernel_rfl) (hcl 3 0 (by kernel_rfl) hLi))).symm.trans (un h)) (by simp)),(fun h h2=>(let ⟨b,e,l,o⟩:=(J.f11 (un h) (un h2));⟨b,e,l,alloc_at o⟩)),(fun h=>absurd (((hcl 12 10 (by kernel_rfl) (hcl 10 3 (by kernel_rfl) (hcl 3 0 (by kernel_rfl) hLi)))).symm.trans (un h)) (by simp)),(fun _=>k_alloc hB _)⟩⟩
  ·skip
   have hN:=(hcl 12 10 (by kernel_rfl) (hcl 10 3 (by kernel_rfl) (hcl 3 2 (by kernel_rfl) (hcl 2 1 (by kernel_rfl) hLi))))
   have hB:=J.b hN
   go_simp
   exact hK _ _ ⟨_,_,_,_,_,_,_,_,_,_,_,_,rfl,⟨(fun h h2=>(J.f0 (un h) (un h2))),(fun _=>rfl),(fun h=>absurd (((hcl 2 1 (by kernel_rfl) hLi)).symm.trans (un h)) (by simp)),(fun h _=>absurd (((hcl 3 2 (by kernel_rfl) (hcl 2 1 (by kernel_rfl) hLi))).symm.trans (un h)) (by simp)),(fun h=>J.f4 (un h)),(fun h=>J.f5 (un h)),(fun h=>J.f6 (un h)),(fun h=>J.f7 (un h)),(fun h=>J.f8 (un h)),(fun h=>J.f9 (un h)),(fun h=>absurd (((hcl 10 3 (by kernel_rfl) (hcl 3 2 (by kernel_rfl) (hcl 2 1 (by kernel_rfl) hLi)))).symm.trans (un h)) (by simp)),(fun h h2=>(J.f11 (un h) (un h2))),(fun h=>absurd (((hcl 12 10 (by kernel_rfl) (hcl 10 3 (by kernel_rfl) (hcl 3 2 (by kernel_rfl) (hcl 2 1 (by kernel_rfl) hLi))))).symm.trans (un h)) (by simp)),(fun _=>hB)⟩⟩
  ·skip
   have hN:=(hcl 12 10 (by kernel_rfl) (hcl 10 3 (by kernel_rfl) (hcl 3 2 (by kernel_rfl) hLi)))
   have hB:=J.b hN
   obtain rfl:=J.f1 (haft ⟨1,.data⟩ (by simp) rfl)
   obtain ⟨q0,q1,q2,q3,q4⟩:=fiveO ((hB.block _ hlt0).trans HT.out)
   have hl:=Nat.lt_of_lt_of_le hlt0 hB.size
   go_simp
   exact hK _ _ ⟨_,_,_,_,_,_,_,_,_,_,_,_,rfl,⟨(fun h h2=>(J.f0 (un h) (un h2))),(fun h=>J.f1 (un h)),(fun _=>rfl),(fun h _=>absurd (((hcl 3 2 (by kernel_rfl) hLi)).symm.trans (un h)) (by simp)),(fun h=>J.f4 (un h)),(fun h=>J.f5 (un h)),(fun h=>J.f6 (un h)),(fun h=>J.f7 (un h)),(fun h=>J.f8 (un h)),(fun h=>J.f9 (un h)),(fun h=>absurd (((hcl 10 3 (by kernel_rfl) (hcl 3 2 (by kernel_rfl) hLi))).symm.trans (un h)) (by simp)),(fun h h2=>(J.f11 (un h) (un h2))),(fun h=>absurd (((hcl 12 10 (by kernel_rfl) (hcl 10 3 (by kernel_rfl) (hcl 3 2 (by kernel_rfl) hLi)))).symm.trans (un h)) (by simp)),(fun _=>hB)⟩⟩
  ·skip
   have hN:=(hcl 12 10 (by kernel_rfl) (hcl 10 3 (by kernel_rfl) hLi))
   have hB:=J.b hN
   have hO:=J.f0 (haft ⟨0,.data⟩ (by simp) rfl) hLi
   obtain rfl:=J.f2 (haft ⟨2,.data⟩ (by simp) rfl)
   rw [if_pos (by rfl)]
   refine wp_append_src _ (.tmp 5) (.tmp 7) 34 rfl W3.heap.size 84 i1 _ 2 16 Try.underlying34 hi1 hy0 hy1 hy2 rfl (by decide) _ _ _ rfl hO ac t.cols.length cc (t.cols.flatMap colVs) rfl (at_some HCA.out) (flat_len colVs 2 (fun _=>rfl) t.cols) (news_cols (HCA.out.kept (k_trans HKw.out hB))) (one_cols t.cols) (by unfold maxLen;omega) (by omega) hB.size ?_
   intro v' w5 hown' hgrow'
   rw [Nat.zero_add,List.nil_append] at hown'
   obtain ⟨a9,c9,rfl,_⟩:=row_form hown'
   exact hK _ _ ⟨_,_,_,_,_,_,_,_,_,_,_,_,rfl,⟨(fun _ h=>absurd (h.symm.trans upd_self) (by simp)),(fun h=>J.f1 (un h)),(fun h=>J.f2 (un h)),(fun _ _=>⟨a9,c9,rfl,hown'⟩),(fun h=>J.f4 (un h)),(fun h=>J.f5 (un h)),(fun h=>J.f6 (un h)),(fun h=>J.f7 (un h)),(fun h=>J.f8 (un h)),(fun h=>J.f9 (un h)),(fun h=>absurd (((hcl 10 3 (by kernel_rfl) hLi)).symm.trans (un h)) (by simp)),(fun h h2=>(let ⟨b,e,l,o⟩:=(J.f11 (un h) (un h2));⟨b,e,l,grown_block hO hgrow' o (by decide)⟩)),(fun h=>absurd (((hcl 12 10 (by kernel_rfl) (hcl 10 3 (by kernel_rfl) hLi))).symm.trans (un h)) (by simp)),(fun _=>hB.grown hgrow' hB.size (fun q hq=>(hO.lt q hq).1))⟩⟩
  ·skip
   have hN:=(hcl 12 10 (by kernel_rfl) (hcl 10 5 (by kernel_rfl) (hcl 5 4 (by kernel_rfl) hLi)))
   have hB:=J.b hN
   go_simp
   exact hK _ _ ⟨_,_,_,_,_,_,_,_,_,_,_,_,rfl,⟨(fun h h2=>(J.f0 (un h) (un h2))),(fun h=>J.f1 (un h)),(fun h=>J.f2 (un h)),(fun h h2=>(J.f3 (un h) (un h2))),(fun _=>rfl),(fun h=>absurd (((hcl 5 4 (by kernel_rfl) hLi)).symm.trans (un h)) (by simp)),(fun h=>J.f6 (un h)),(fun h=>J.f7 (un h)),(fun h=>J.f8 (un h)),(fun h=>J.f9 (un h)),(fun h=>absurd (((hcl 10 5 (by kernel_rfl) (hcl 5 4 (by kernel_rfl) hLi))).symm.trans (un h)) (by simp)),(fun h h2=>(J.f11 (un h) (un h2))),(fun h=>absurd (((hcl 12 10 (by kernel_rfl) (hcl 10 5 (by kernel_rfl) (hcl 5 4 (by kernel_rfl) hLi)))).symm.trans (un h)) (by simp)),(fun _=>hB)⟩⟩
  ·skip
   have hN:=(hcl 12 10 (by kernel_rfl) (hcl 10 5 (by kernel_rfl) hLi))
   have hB:=J.b hN
   obtain rfl:=J.f4 (haft ⟨4,.data⟩ (by simp) rfl)
   obtain ⟨q0,q1,q2,q3,q4⟩:=fiveO ((hB.block _ hlt0).trans HT.out)
   have hl:=Nat.lt_of_lt_of_le hlt0 hB.size
   go_simp
   exact hK _ _ ⟨_,_,_,_,_,_,_,_,_,_,_,_,rfl,⟨(fun h h2=>(J.f0 (un h) (un h2))),(fun h=>J.f1 (un h)),(fun h=>J.f2 (un h)),(fun h h2=>(J.f3 (un h) (un h2))),(fun h=>J.f4 (un h)),(fun _=>rfl),(fun h=>J.f6 (un h)),(fun h=>J.f7 (un h)),(fun h=>J.f8 (un h)),(fun h=>J.f9 (un h)),(fun h=>absurd (((hcl 10 5 (by kernel_rfl) hLi)).symm.trans (un h)) (by simp)),(fun h h2=>(J.f11 (un h) (un h2))),(fun h=>absurd (((hcl 12 10 (by kernel_rfl) (hcl 10 5 (by kernel_rfl) hLi))).symm.trans (un h)) (by simp)),(fun _=>hB)⟩⟩
  ·skip
   have hN:=(hcl 12 10 (by kernel_rfl) (hcl 10 7 (by kernel_rfl) (hcl 7 6 (by kernel_rfl) hLi)))
   have hB:=J.b hN
   go_simp
   exact hK _ _ ⟨_,_,_,_,_,_,_,_,_,_,_,_,rfl,⟨(fun h h2=>(J.f0 (un h) (un h2))),(fun h=>J.f1 (un h)),(fun h=>J.f2 (un h)),(fun h h2=>(J.f3 (un h) (un h2))),(fun h=>J.f4 (un h)),(fun h=>J.f5 (un h)),(fun _=>rfl),(fun h=>absurd (((hcl 7 6 (by kernel_rfl) hLi)).symm.trans (un h)) (by simp)),(fun h=>J.f8 (un h)),(fun h=>J.f9 (un h)),(fun h=>absurd (((hcl 10 7 (by kernel_rfl) (hcl 7 6 (by kernel_rfl) hLi))).symm.trans (un h)) (by simp)),(fun h h2=>(J.f11 (un h) (un h2))),(fun h=>absurd (((hcl 12 10 (by kernel_rfl) (hcl 10 7 (by kernel_rfl) (hcl 7 6 (by kernel_rfl) hLi)))).symm.trans (un h)) (by simp)),(fun _=>hB)⟩⟩
  ·skip
   have hN:=(hcl 12 10 (by kernel_rfl) (hcl 10 7 (by kernel_rfl) hLi))
   have hB:=J.b hN
   obtain rfl:=J.f6 (haft ⟨6,.data⟩ (by simp) rfl)
   obtain ⟨q0,q1,q2,q3,q4⟩:=fiveO ((hB.block _ hlt0).trans HT.out)
   have hl:=Nat.lt_of_lt_of_le hlt0 hB.size
   go_simp
   exact hK _ _ ⟨_,_,_,_,_,_,_,_,_,_,_,_,rfl,⟨(fun h h2=>(J.f0 (un h) (un h2))),(fun h=>J.f1 (un h)),(fun h=>J.f2 (un h)),(fun h h2=>(J.f3 (un h) (un h2))),(fun h=>J.f4 (un h)),(fun h=>J.f5 (un h)),(fun h=>J.f6 (un h)),(fun _=>rfl),(fun h=>J.f8 (un h)),(fun h=>J.f9 (un h)),(fun h=>absurd (((hcl 10 7 (by kernel_rfl) hLi)).symm.trans (un h)) (by simp)),(fun h h2=>(J.f11 (un h) (un h2))),(fun h=>absurd (((hcl 12 10 (by kernel_rfl) (hcl 10 7 (by kernel_rfl) hLi))).symm.trans (un h)) (by simp)),(fun _=>hB)⟩⟩
  ·skip
   have hN:=(hcl 12 10 (by kernel_rfl) (hcl 10 9 (by kernel_rfl) (hcl 9 8 (by kernel_rfl) hLi)))
   have hB:=J.b hN
   go_simp
   exact hK _ _ ⟨_,_,_,_,_,_,_,_,_,_,_,_,rfl,⟨(fun h h2=>(J.f0 (un h) (un h2))),(fun h=>J.f1 (un h)),(fun h=>J.f2 (un h)),(fun h h2=>(J.f3 (un h) (un h2))),(fun h=>J.f4 (un h)),(fun h=>J.f5 (un h)),(fun h=>J.f6 (un h)),(fun h=>J.f7 (un h)),(fun _=>rfl),(fun h=>absurd (((hcl 9 8 (by kernel_rfl) hLi)).symm.trans (un h)) (by simp)),(fun h=>absurd (((hcl 10 9 (by kernel_rfl) (hcl 9 8 (by kernel_rfl) hLi))).symm.trans (un h)) (by simp)),(fun h h2=>(J.f11 (un h) (un h2))),(fun h=>absurd (((hcl 12 10 (by kernel_rfl) (hcl 10 9 (by kernel_rfl) (hcl 9 8 (by kernel_rfl) hLi)))).symm.trans (un h)) (by simp)),(fun _=>hB)⟩⟩
  ·skip
   have hN:=(hcl 12 10 (by kernel_rfl) (hcl 10 9 (by kernel_rfl) hLi))
   have hB:=J.b hN
   obtain rfl:=J.f8 (haft ⟨8,.data⟩ (by simp) rfl)
   obtain ⟨q0,q1,q2,q3,q4⟩:=fiveO ((hB.block _ hlt0).trans HT.out)
   have hl:=Nat.lt_of_lt_of_le hlt0 hB.size
   go_simp
   exact hK _ _ ⟨_,_,_,_,_,_,_,_,_,_,_,_,rfl,⟨(fun h h2=>(J.f0 (un h) (un h2))),(fun h=>J.f1 (un h)),(fun h=>J.f2 (un h)),(fun h h2=>(J.f3 (un h) (un h2))),(fun h=>J.f4 (un h)),(fun h=>J.f5 (un h)),(fun h=>J.f6 (un h)),(fun h=>J.f7 (un h)),(fun h=>J.f8 (un h)),(fun _=>rfl),(fun h=>absurd (((hcl 10 9 (by kernel_rfl) hLi)).symm.trans (un h)) (by simp)),(fun h h2=>(J.f11 (un h) (un h2))),(fun h=>absurd (((hcl 12 10 (by kernel_rfl) (hcl 10 9 (by kernel_rfl) hLi))).symm.trans (un h)) (by simp)),(fun _=>hB)⟩⟩
  ·skip
   have hN:=(hcl 12 10 (by kernel_rfl) hLi)
   have hB:=J.b hN
   obtain ⟨a9,c9,rfl,_⟩:=J.f3 (haft ⟨3,.data⟩ (by simp) rfl) (hcl 12 10 (by kernel_rfl) hLi)
   obtain rfl:=J.f5 (haft ⟨5,.data⟩ (by simp) rfl)
   obtain rfl:=J.f7 (haft ⟨7,.data⟩ (by simp) rfl)
   obtain rfl:=J.f9 (haft ⟨9,.data⟩ (by simp) rfl)
   go_simp
   exact hK _ _ ⟨_,_,_,_,_,_,_,_,_,_,_,_,rfl,⟨(fun h h2=>(J.f0 (un h) (un h2))),(fun h=>J.f1 (un h)),(fun h=>J.f2 (un h)),(fun h h2=>(J.f3 (un h) (un h2))),(fun h=>J.f4 (un h)),(fun h=>J.f5 (un h)),(fun h=>J.f6 (un h)),(fun h=>J.f7 (un h)),(fun h=>J.f8 (un h)),(fun h=>J.f9 (un h)),(fun _=>⟨a9,c9,rfl,rfl⟩),(fun h h2=>(J.f11 (un h) (un h2))),(fun h=>absurd (((hcl 12 10 (by kernel_rfl) hLi)).symm.trans (un h)) (by simp)),(fun _=>hB)⟩⟩
  ·skip
   have hN:=(hcl 12 11 (by kernel_rfl) hLi)
   have hB:=J.b hN
   go_simp
   exact hK _ _ ⟨_,_,_,_,_,_,_,_,_,_,_,_,rfl,⟨(fun h h2=>row_alloc (J.f0 (un h) (un h2)) _),(fun h=>J.f1 (un h)),(fun h=>J.f2 (un h)),(fun h h2=>(let ⟨a,c,e,o⟩:=(J.f3 (un h) (un h2));⟨a,c,e,row_alloc o _⟩)),(fun h=>J.f4 (un h)),(fun h=>J.f5 (un h)),(fun h=>J.f6 (un h)),(fun h=>J.f7 (un h)),(fun h=>J.f8 (un h)),(fun h=>J.f9 (un h)),(fun h=>J.f10 (un h)),(fun _ _=>⟨_,rfl,hB.size,newestB _ _⟩),(fun h=>absurd (((hcl 12 11 (by kernel_rfl) hLi)).symm.trans (un h)) (by simp)),(fun _=>k_alloc hB _)⟩⟩
  ·skip
   have hN:=hLi
   have hB:=J.b hN
   obtain ⟨a9,c9,rfl,rfl⟩:=J.f10 (haft ⟨10,.data⟩ (by simp) rfl)
   obtain ⟨b,rfl,hlb,hb0⟩:=J.f11 (haft ⟨11,.data⟩ (by simp) rfl) hLi
   have hD3:L 3=true:=eq_true_of_ne_false (fun h3=>by have h4:=hcl 10 3 (by kernel_rfl) h3;rw [haft ⟨10,.data⟩ (by simp) rfl] at h4;cases h4)
   obtain ⟨_,_,hee,hO⟩:=J.f3 hD3 hLi
   clear hee
   obtain ⟨d0,d1,d2,d3,d4⟩:=fiveO hb0
   have fz:∀ p,W.frozen? ⟨b,p,none⟩=false:=fun p=>freeB hb0
   go_simp
   exact hK _ _ ⟨_,_,_,_,_,_,_,_,_,_,_,_,rfl,⟨(fun h h2=>absurd ((un h2).symm.trans hD3) (by simp)),(fun h=>J.f1 (un h)),(fun h=>J.f2 (un h)),(fun _ h=>absurd (h.symm.trans upd_self) (by simp)),(fun h=>J.f4 (un h)),(fun h=>J.f5 (un h)),(fun h=>J.f6 (un h)),(fun h=>J.f7 (un h)),(fun h=>J.f8 (un h)),(fun h=>J.f9 (un h)),(fun h=>J.f10 (un h)),(fun _ h=>absurd (h.symm.trans upd_self) (by simp)),(fun _=>⟨b,a9,c9,rfl,hlb,setB (setB (setB (setB (setB hb0 _) _) _) _) _,row_off5 hO hb0 (by decide) _ _ _ _ _,k_set (k_set (k_set (k_set (k_set hB hlb _) hlb _) hlb _) hlb _) hlb _⟩),(fun h=>absurd (h.symm.trans upd_self) (by simp))⟩⟩
end Go.Proofs.Ytggmjiddadjilaj
