/-
  PROVED HERE: the model's l7Lines at a drawn table's grid, by any widths: the lines of each cell, in memory of their own; nothing that was in memory is turned. Also: 3 more texts of the same proof.
-/
import Derived.Test.YtggmjiddadjilahGreatJ31
import Derived.Test.YtggmjiddadjilahGreatJ34
set_option maxRecDepth 1000000
set_option maxHeartbeats 40000000
open Go.Proofs.Tryz
namespace Go.Proofs.YtggmjiddadjilahGreat
open Value (int)
open IntKind (i64)
open Go.RowKit Go.BigFrame
structure L7J (w W1 W3:World) (BB:Nat) (ac ar ag:Option Addr) (cc cr cg:Nat) (t:T) (x:GC) (U:Value) (us:List Value) (ls:List (List ByteArray)) (lns:List ByteArray) (s:ByteArray) (q:Int) (va:Value) (k tb gb cb b off:Nat) (L:Nat->Bool) (W:World) (v7 v17 v18 v19 v20 v21 v22 v23 v24 v25 v26 v27 v28 v29 v30 v31 v32 v33 v34 v35 v36:Value):Prop where
 f0:L 0=true->v17=U
 f1:L 1=true->v18=.agg #[.slice ac t.cols.length cc,int i64 t.head,int i64 t.foot,.slice ar t.rows.length cr,int i64 t.gap]
 f2:L 2=true->v19=.pointer (some ⟨gb,2,none⟩)
 f3:L 3=true->v20=.slice (some ⟨b,off,none⟩) (Z t).cells.length cg
 f4:L 4=true->v21=int i64 (k:Int)
 f5:L 5=true->v22=.pointer (some ⟨b,off+k * 5,none⟩)
 f6:L 6=true->v23=.agg #[int i64 x.row,int i64 x.col,int i64 x.rows,int i64 x.cols,int i64 x.ins]
 f7:L 7=true->v24=.string s
 f8:L 8=true->v25=va
 f9:L 9=true->v26=.pointer (some ⟨tb,4,none⟩)
 f10:L 10=true->v27=int i64 t.gap
 f11:L 11=true->v28=.pointer (some ⟨gb,2,none⟩)
 f12:L 12=true->v29=.slice (some ⟨b,off,none⟩) (Z t).cells.length cg
 f13:L 13=true->v30=int i64 (k:Int)
 f14:L 14=true->v31=.pointer (some ⟨b,off+k * 5,none⟩)
 f15:L 15=true->v32=.agg #[int i64 x.row,int i64 x.col,int i64 x.rows,int i64 x.cols,int i64 x.ins]
 f16:L 16=true->v33=int i64 q
 f17:L 17=true->L 19=false->z1I W BB v34 lns
 f18:L 18=true->∃ g,v35=.slice (some ⟨g,0,none⟩) 1 1/\(L 19=false->W.cell? ⟨g,0,none⟩=some v34)
 fA:L 20=true->v7=v36
 nA:L 20=false->v7=U
 b4:L 19=false->Below W3.heap.size W3 W
 bel:Below W1.heap.size W1 W
 ownA:L 19=true->W.ownsRow BB 93 1 v36 (us ++ [v34]).length (us ++ [v34])/\z2F W BB (us ++ [v34]) (ls ++ [lns])
theorem z9i (ac ar ag al:Option Addr) (cc cr cg cl n:Nat) (t:T) (hD:z0g t) (l:List Int) (hl1:l.length<=1048576) (w:World) {z zg:Nat} (hT:TA w z ac ar cc cr t) (hG:z1K w zg (.slice ag (Z t).cells.length cg) (Z t).cells) (hI:zA w (.slice al n cl) l) :
  Calls prog 50 #[.agg #[.slice ac t.cols.length cc,int i64 t.head,int i64 t.foot,.slice ar t.rows.length cr,int i64 t.gap],.agg #[int i64 (Z t).rows,int i64 (Z t).cols,.slice ag (Z t).cells.length cg],.slice al n cl] w λe w'=>∃ v,e=.returned v/\z2c w' w.heap.size v (z0V t l (Z t).cells)/\Below w.heap.size w w':=by
 have hmx:prog.follows .mixedOrders=true:=(by kernel_rfl);obtain ⟨i0,hi0,hz0,hz1,hz2⟩:=info_parts zh5;obtain ⟨h40,C,hgc,hC88,hcel⟩:=z35 hD;obtain ⟨W1,hW1⟩:∃ W1,w.alloc (.cells #[.slice ac t.cols.length cc,int i64 t.head,int i64 t.foot,.slice ar t.rows.length cr,int i64 t.gap] 26)=W1:=⟨_,rfl⟩;have hs1:W1.heap.size=w.heap.size+1:=(by rw [<-hW1];simp);have K1:Below w.heap.size w W1:=(by rw [<-hW1];exact ze bR _);have X1:W1.heap[w.heap.size]?=some (.cells #[.slice ac t.cols.length cc,int i64 t.head,int i64 t.foot,.slice ar t.rows.length cr,int i64 t.gap] 26):=(by rw [<-hW1];exact zj _ _);obtain ⟨W2,hW2⟩:∃ W2,W1.alloc (.cells #[int i64 (Z t).rows,int i64 (Z t).cols,.slice ag (Z t).cells.length cg] 38)=W2:=⟨_,rfl⟩;have hs2:W2.heap.size=w.heap.size+2:=(by rw [<-hW2];simp [hs1]);have K2:Below w.heap.size w W2:=(by rw [<-hW2];exact ze K1 _);have X2:W2.heap[w.heap.size]?=some (.cells #[.slice ac t.cols.length cc,int i64 t.head,int i64 t.foot,.slice ar t.rows.length cr,int i64 t.gap] 26):=(by rw [<-hW2];exact (bA (by omega)).trans X1)
 have Y2:W2.heap[w.heap.size+1]?=some (.cells #[int i64 (Z t).rows,int i64 (Z t).cols,.slice ag (Z t).cells.length cg] 38):=by
  have:=zj W1 (.cells #[int i64 (Z t).rows,int i64 (Z t).cols,.slice ag (Z t).cells.length cg] 38);rw [hW2,hs1] at this;exact this
 have HM:=O (And.intro (hT.kept K2) (And.intro (hG.kept K2) (And.intro (hI.kept K2) (And.intro X2 Y2))));have HK2:=O K2;have HCel:=O hcel;have HLe:=O (z3x t l (Z t).cells);have HLn:=O (λk (h:k < (Z t).cells.length)=>z9b t l h);have HLs:=O (z9c t l (Z t).cells);have HB0:=O (ze (Below.refl W2.heap.size W2) (.cells #[] 93));have HO0:Hid ((W2.alloc (.cells #[] 93)).ownsRow W2.heap.size 93 1 (.slice (some ⟨W2.heap.size,0,none⟩) 0 0) ([]:List Value).length []):=World.ownsRow_made (base:=W2.heap.size) (e:=93) (size:=1) W2 #[] 0 lR nZ rfl;clear hT hG hI X1 K1 X2 Y2 K2 hcel hgc hD;go_enter func50,ntmps50;go_upto_region 1 with fail
 clear hW1 hW2 W1 hs1;have HS2:=O hs2;go_wp2_with fail
 rw [show w.heap.size+1+1=W2.heap.size from hs2.symm];clear hs2;go_loopw [7,8] (λo i W=>∃ (k:Nat) (us:List Value),i=int i64 k/\k<=(Z t).cells.length/\Hid (W.ownsRow W2.heap.size 93 1 o us.length us)/\Hid (z2F W W2.heap.size us ((z0V t l (Z t).cells).take k))/\Hid (Below W2.heap.size W2 W)) (λ_ i _=>(Z t).cells.length - (intOf i).toNat)
 case atStart=>exact ⟨0,[],rfl,nZ,HO0,by rw [List.take_zero];exact z2F.nil _ _,HB0⟩
 case round =>
  clear HO0 HB0;obtain ⟨k,us,rfl,hk,HO,HRs,HB1⟩:=hrel;have X:=O ((HB1.out.block w.heap.size (by rw [HS2.out];omega)).trans HM.out.2.2.2.1);have Y:=O ((HB1.out.block (w.heap.size+1) (by rw [HS2.out];omega)).trans HM.out.2.2.2.2);have y2:wr.cell? ⟨w.heap.size+1,2,none⟩=some (.slice ag (Z t).cells.length cg):=zf Y.out;have hyw:w.heap.size+1 < wr.heap.size:=(bL Y.out);by_cases hkl:k < (Z t).cells.length
  case neg =>
   obtain rfl:k=(Z t).cells.length:=by omega
   rw [<-HLe.out,List.take_length] at HRs;have HF:=O (HRs.out.lls HO.out (z:=w.heap.size) (by rw [HS2.out];omega) (by rw [HS2.out];omega) HLs.out);have HK:=O (HK2.out.trans (HB1.out.mono (by rw [HS2.out];omega)));go_wp2;go_ret;exact ⟨_,rfl,HF.out,HK.out⟩
  obtain ⟨b,off,cap',e',hc1,hc2,hbl,hx,hxo⟩:=At.get (HM.out.2.1.kept HB1.out) hkl;simp only [Value.slice.injEq,true_and] at e';obtain ⟨rfl,rfl⟩:=e';have HNx:=O (HLn.out k hkl);have HCx:=O (HCel.out k hkl);generalize (z0V t l (Z t).cells).take k=ls at HRs HNx;generalize (Z t).cells.getD k dG=x at hx hxo HNx HCx;obtain ⟨x0,x1,x2,x3,x4⟩:=hx;have hsz:(zR t x).size<=maxLen:=z6M HCx.out HM.out.1.2;have HQ:=O (zbU l t.gap x);have KT:=O (λW (h:Below wr.heap.size wr W)=>zav ac ar cc cr t x HCx.out W ((HM.out.1.2.kept HB1.out).kept h));have KW:=O (λW (h:Below wr.heap.size wr W)=>zef _ l hl1 t.gap x hxo W ((HM.out.2.2.1.kept HB1.out).kept h));have KL:=O (λW=>zdG (zR t x) hsz (z2t l t.gap x) HQ.out W);have HNy:Hid ((z0V t l (Z t).cells).take (k+1)=ls ++ [z01 (z1f (z2t l t.gap x) (zZ (zR t x)))]):=HNx.out;clear HNx HQ hsz;have HNx:=HNy;clear HNy HCx hxo;generalize z01 (z1f (z2t l t.gap x) (zZ (zR t x)))=lns at KL HNx;generalize z2t l t.gap x=q at KW KL;generalize zR t x=s at KT KL;have HX:Hid (wr.heap[w.heap.size]?=some (.cells #[.slice ac t.cols.length cc,int i64 t.head,int i64 t.foot,.slice ar t.rows.length cr,int i64 t.gap] 26)):=X;have HY:Hid (wr.heap[w.heap.size+1]?=some (.cells #[int i64 (Z t).rows,int i64 (Z t).cols,.slice (some ⟨b,off,none⟩) (Z t).cells.length cg] 38)):=Y;have hlt0:w.heap.size < wr.heap.size:=(by omega);have hlg:=hyw;have husl:us.length<=40:=(by have h1:=HRs.out.1;have h2:=congrArg List.length HNx.out;rw [List.length_append,List.length_take,List.length_singleton] at h2;omega);have HBs:Hid (∀ {m:Nat},W2.heap.size<=m->W2.heap.size<=m):=λh=>h;have HBs2:Hid (∀ {m:Nat},W2.heap.size<=m->W2.heap.size<=m):=λh=>h;unfold maxLen at hc2;clear X Y HCel HLn HLs HLe;go_upto_region 5 with fail
  refine z0n (λL act W=>∃ v7 v17 v18 v19 v20 v21 v22 v23 v24 v25 v26 v27 v28 v29 v30 v31 v32 v33 v34 v35 v36:Value,act=⟨#[.agg #[.slice ac t.cols.length cc,int i64 t.head,int i64 t.foot,.slice ar t.rows.length cr,int i64 t.gap],.agg #[int i64 (Z t).rows,int i64 (Z t).cols,.slice (some ⟨b,off,none⟩) (Z t).cells.length cg],.slice al n cl,.pointer (some ⟨w.heap.size,0,none⟩),.pointer (some ⟨w.heap.size+1,0,none⟩),undef,.slice none 0 0,v7,int i64 (k:Int),.slice (some ⟨W2.heap.size,0,none⟩) 0 0,int i64 (k:Int),.pointer (some ⟨w.heap.size+1,2,none⟩),.slice (some ⟨b,off,none⟩) (Z t).cells.length cg,int i64 ((Z t).cells.length:Int),.bool true,u15,u16,v17,v18,v19,v20,v21,v22,v23,v24,v25,v26,v27,v28,v29,v30,v31,v32,v33,v34,v35,v36,undef],[]⟩/\L7J w W2 wr W2.heap.size ac ar (some ⟨b,off,none⟩) cc cr cg t x u7 us ls lns s q (.slice al n cl) k w.heap.size (w.heap.size+1) 0 b off L W v7 v17 v18 v19 v20 v21 v22 v23 v24 v25 v26 v27 v28 v29 v30 v31 v32 v33 v34 v35 v36) hmx (by kernel_rfl) ?hs ?hd ?h0
  case h0=>exact e21 ⟨rfl,⟨n0,n0,n0,n0,n0,n0,n0,n0,n0,n0,n0,n0,n0,n0,n0,n0,n0,n0,n0,n0,λ_=>rfl,λ_=>z0X bR,z0X HB1.out,n0⟩⟩
  case hd =>
   intro L act W hJ hall;obtain ⟨v7,v17,v18,v19,v20,v21,v22,v23,v24,v25,v26,v27,v28,v29,v30,v31,v32,v33,v34,v35,v36,ha,J⟩:=hJ;subst ha;obtain rfl:=J.fA (hall 20 (by decide));obtain ⟨ho5,hr5⟩:=J.ownA (hall 19 (by decide));have HO5:=O ho5;have HR5:=O hr5;have HB5:=O J.bel;obtain ⟨g',cap'',rfl⟩:=Joins.ownsRow_form HO5.out (by simp);clear J hall ho5 hr5;go_wp2;go_roundw
   case rel=>exact ⟨k+1,_,by go_num,by omega,HO5,by rw [HNx.out];exact HR5,HB5⟩
   case measure=>simp [intOf];omega
  case hs =>
   intro L act W i o hJ hcl ho hLi haft K hK;obtain ⟨v7,v17,v18,v19,v20,v21,v22,v23,v24,v25,v26,v27,v28,v29,v30,v31,v32,v33,v34,v35,v36,ha,J⟩:=hJ;subst ha
   have hi':i < 21:=by
    have:=(bL ho)
    simpa using this
   rcases (by omega:i=0\/i=1\/i=2\/i=3\/i=4\/i=5\/i=6\/i=7\/i=8\/i=9\/i=10\/i=11\/i=12\/i=13\/i=14\/i=15\/i=16\/i=17\/i=18\/i=19\/i=20) with rfl | rfl | rfl | rfl | rfl | rfl | rfl | rfl | rfl | rfl | rfl | rfl | rfl | rfl | rfl | rfl | rfl | rfl | rfl | rfl | rfl
   all_goals
    simp only [List.getElem?_toArray,List.getElem?_cons_zero,List.getElem?_cons_succ,Option.some.injEq] at ho;subst ho;clear hi'
   ·have hAp:L 19=false:=(Qh hcl 19 0 hLi);have hAs:L 20=false:=(Pl hcl 20 [19] hLi);have B4:=J.b4 hAp;obtain rfl:=J.nA hAs;go_simp;exact hK _ _ (e21 ⟨rfl,⟨λ_=>rfl,V J.f1,V J.f2,V J.f3,V J.f4,V J.f5,V J.f6,V J.f7,V J.f8,V J.f9,V J.f10,V J.f11,V J.f12,V J.f13,V J.f14,V J.f15,V J.f16,u2 J.f17,ub J.f18,uf hAs,V J.nA,λ_=>B4,J.bel,uf hAp⟩⟩)
   ·have hAp:L 19=false:=(Pl hcl 19 [18,17,7] hLi);have hAs:L 20=false:=(Pl hcl 20 [19,18,17,7] hLi);have B4:=J.b4 hAp;obtain ⟨q0,q1,q2,q3,q4⟩:=zL ((B4.block _ hlt0).trans HX.out);have hl:=nL hlt0 B4.size;go_simp;exact hK _ _ (e21 ⟨rfl,⟨V J.f0,λ_=>rfl,V J.f2,V J.f3,V J.f4,V J.f5,V J.f6,V J.f7,V J.f8,V J.f9,V J.f10,V J.f11,V J.f12,V J.f13,V J.f14,V J.f15,V J.f16,u2 J.f17,ub J.f18,uf hAs,V J.nA,λ_=>B4,J.bel,uf hAp⟩⟩)
   ·have hAp:L 19=false:=(Pl hcl 19 [18,17,7,6,5,3] hLi);have hAs:L 20=false:=(Pl hcl 20 [19,18,17,7,6,5,3] hLi);have B4:=J.b4 hAp;go_simp;exact hK _ _ (e21 ⟨rfl,⟨V J.f0,V J.f1,λ_=>rfl,V J.f3,V J.f4,V J.f5,V J.f6,V J.f7,V J.f8,V J.f9,V J.f10,V J.f11,V J.f12,V J.f13,V J.f14,V J.f15,V J.f16,u2 J.f17,ub J.f18,uf hAs,V J.nA,λ_=>B4,J.bel,uf hAp⟩⟩)
   ·have hAp:L 19=false:=(Pl hcl 19 [18,17,7,6,5] hLi);have hAs:L 20=false:=(Pl hcl 20 [19,18,17,7,6,5] hLi);have B4:=J.b4 hAp;obtain ⟨q0,q1,q2⟩:=z26 ((B4.block _ hlg).trans HY.out);have hl:=nL hlg B4.size;obtain rfl:=J.f2 (Fa haft 2);go_simp;exact hK _ _ (e21 ⟨rfl,⟨V J.f0,V J.f1,V J.f2,λ_=>rfl,V J.f4,V J.f5,V J.f6,V J.f7,V J.f8,V J.f9,V J.f10,V J.f11,V J.f12,V J.f13,V J.f14,V J.f15,V J.f16,u2 J.f17,ub J.f18,uf hAs,V J.nA,λ_=>B4,J.bel,uf hAp⟩⟩)
   ·have hAp:L 19=false:=(Pl hcl 19 [18,17,7,6,5] hLi);have hAs:L 20=false:=(Pl hcl 20 [19,18,17,7,6,5] hLi);have B4:=J.b4 hAp;go_simp;exact hK _ _ (e21 ⟨rfl,⟨V J.f0,V J.f1,V J.f2,V J.f3,λ_=>rfl,V J.f5,V J.f6,V J.f7,V J.f8,V J.f9,V J.f10,V J.f11,V J.f12,V J.f13,V J.f14,V J.f15,V J.f16,u2 J.f17,ub J.f18,uf hAs,V J.nA,λ_=>B4,J.bel,uf hAp⟩⟩)
   ·have hAp:L 19=false:=(Pl hcl 19 [18,17,7,6] hLi);have hAs:L 20=false:=(Pl hcl 20 [19,18,17,7,6] hLi);have B4:=J.b4 hAp;obtain rfl:=J.f3 (Fa haft 3);obtain rfl:=J.f4 (Fa haft 4);go_simp;exact hK _ _ (e21 ⟨rfl,⟨V J.f0,V J.f1,V J.f2,V J.f3,V J.f4,λ_=>rfl,V J.f6,V J.f7,V J.f8,V J.f9,V J.f10,V J.f11,V J.f12,V J.f13,V J.f14,V J.f15,V J.f16,u2 J.f17,ub J.f18,uf hAs,V J.nA,λ_=>B4,J.bel,uf hAp⟩⟩)
   ·have hAp:L 19=false:=(Pl hcl 19 [18,17,7] hLi);have hAs:L 20=false:=(Pl hcl 20 [19,18,17,7] hLi);have B4:=J.b4 hAp;have q0:=(B4.cell (p:=⟨b,off+k * 5,none⟩) hbl).trans x0;have q1:=(B4.cell (p:=⟨b,off+k * 5+1,none⟩) hbl).trans x1;have q2:=(B4.cell (p:=⟨b,off+k * 5+2,none⟩) hbl).trans x2;have q3:=(B4.cell (p:=⟨b,off+k * 5+3,none⟩) hbl).trans x3;have q4:=(B4.cell (p:=⟨b,off+k * 5+4,none⟩) hbl).trans x4;obtain rfl:=J.f5 (Fa haft 5);go_simp;exact hK _ _ (e21 ⟨rfl,⟨V J.f0,V J.f1,V J.f2,V J.f3,V J.f4,V J.f5,λ_=>rfl,V J.f7,V J.f8,V J.f9,V J.f10,V J.f11,V J.f12,V J.f13,V J.f14,V J.f15,V J.f16,u2 J.f17,ub J.f18,uf hAs,V J.nA,λ_=>B4,J.bel,uf hAp⟩⟩)
   ·have hAp:L 19=false:=(Pl hcl 19 [18,17] hLi);have hAs:L 20=false:=(Pl hcl 20 [19,18,17] hLi);have B4:=J.b4 hAp;obtain rfl:=J.f1 (Fa haft 1);obtain rfl:=J.f6 (Fa haft 6);go_simp;go_wp2_with (go_at_call 86;refine (KT.out W B4).mono ?_;rintro e WN ⟨rfl,_,hb⟩)
    exact e21 ⟨rfl,⟨V J.f0,V J.f1,V J.f2,V J.f3,V J.f4,V J.f5,V J.f6,λ_=>rfl,V J.f8,V J.f9,V J.f10,V J.f11,V J.f12,V J.f13,V J.f14,V J.f15,V J.f16,λh h2=>(J.f17 (un h) (by rwa [zc rfl] at h2)).below hb lR,λh=>by obtain ⟨g,e,c⟩:=J.f18 (un h);exact ⟨g,e,λh2=>(hb.cell (World.block_lt_of_cell? _ _ (c (by rwa [zc rfl] at h2)))).trans (c (by rwa [zc rfl] at h2))⟩,uf hAs,V J.nA,λ_=>zi B4 hb,zi J.bel hb,uf hAp⟩⟩
   ·have hAp:L 19=false:=(Pl hcl 19 [18,17,16] hLi);have hAs:L 20=false:=(Pl hcl 20 [19,18,17,16] hLi);have B4:=J.b4 hAp;go_simp;exact hK _ _ (e21 ⟨rfl,⟨V J.f0,V J.f1,V J.f2,V J.f3,V J.f4,V J.f5,V J.f6,V J.f7,λ_=>rfl,V J.f9,V J.f10,V J.f11,V J.f12,V J.f13,V J.f14,V J.f15,V J.f16,u2 J.f17,ub J.f18,uf hAs,V J.nA,λ_=>B4,J.bel,uf hAp⟩⟩)
   ·have hAp:L 19=false:=(Pl hcl 19 [18,17,16,10] hLi);have hAs:L 20=false:=(Pl hcl 20 [19,18,17,16,10] hLi);have B4:=J.b4 hAp;go_simp;exact hK _ _ (e21 ⟨rfl,⟨V J.f0,V J.f1,V J.f2,V J.f3,V J.f4,V J.f5,V J.f6,V J.f7,V J.f8,λ_=>rfl,V J.f10,V J.f11,V J.f12,V J.f13,V J.f14,V J.f15,V J.f16,u2 J.f17,ub J.f18,uf hAs,V J.nA,λ_=>B4,J.bel,uf hAp⟩⟩)
   ·have hAp:L 19=false:=(Pl hcl 19 [18,17,16] hLi);have hAs:L 20=false:=(Pl hcl 20 [19,18,17,16] hLi);have B4:=J.b4 hAp;obtain ⟨q0,q1,q2,q3,q4⟩:=zL ((B4.block _ hlt0).trans HX.out);have hl:=nL hlt0 B4.size;obtain rfl:=J.f9 (Fa haft 9);go_simp;exact hK _ _ (e21 ⟨rfl,⟨V J.f0,V J.f1,V J.f2,V J.f3,V J.f4,V J.f5,V J.f6,V J.f7,V J.f8,V J.f9,λ_=>rfl,V J.f11,V J.f12,V J.f13,V J.f14,V J.f15,V J.f16,u2 J.f17,ub J.f18,uf hAs,V J.nA,λ_=>B4,J.bel,uf hAp⟩⟩)
   ·have hAp:L 19=false:=(Pl hcl 19 [18,17,16,15,14,12] hLi);have hAs:L 20=false:=(Pl hcl 20 [19,18,17,16,15,14,12] hLi);have B4:=J.b4 hAp;go_simp;exact hK _ _ (e21 ⟨rfl,⟨V J.f0,V J.f1,V J.f2,V J.f3,V J.f4,V J.f5,V J.f6,V J.f7,V J.f8,V J.f9,V J.f10,λ_=>rfl,V J.f12,V J.f13,V J.f14,V J.f15,V J.f16,u2 J.f17,ub J.f18,uf hAs,V J.nA,λ_=>B4,J.bel,uf hAp⟩⟩)
   ·have hAp:L 19=false:=(Pl hcl 19 [18,17,16,15,14] hLi);have hAs:L 20=false:=(Pl hcl 20 [19,18,17,16,15,14] hLi);have B4:=J.b4 hAp;obtain ⟨q0,q1,q2⟩:=z26 ((B4.block _ hlg).trans HY.out);have hl:=nL hlg B4.size;obtain rfl:=J.f11 (Fa haft 11);go_simp;exact hK _ _ (e21 ⟨rfl,⟨V J.f0,V J.f1,V J.f2,V J.f3,V J.f4,V J.f5,V J.f6,V J.f7,V J.f8,V J.f9,V J.f10,V J.f11,λ_=>rfl,V J.f13,V J.f14,V J.f15,V J.f16,u2 J.f17,ub J.f18,uf hAs,V J.nA,λ_=>B4,J.bel,uf hAp⟩⟩)
   ·have hAp:L 19=false:=(Pl hcl 19 [18,17,16,15,14] hLi);have hAs:L 20=false:=(Pl hcl 20 [19,18,17,16,15,14] hLi);have B4:=J.b4 hAp;go_simp;exact hK _ _ (e21 ⟨rfl,⟨V J.f0,V J.f1,V J.f2,V J.f3,V J.f4,V J.f5,V J.f6,V J.f7,V J.f8,V J.f9,V J.f10,V J.f11,V J.f12,λ_=>rfl,V J.f14,V J.f15,V J.f16,u2 J.f17,ub J.f18,uf hAs,V J.nA,λ_=>B4,J.bel,uf hAp⟩⟩)
   ·have hAp:L 19=false:=(Pl hcl 19 [18,17,16,15] hLi);have hAs:L 20=false:=(Pl hcl 20 [19,18,17,16,15] hLi);have B4:=J.b4 hAp;obtain rfl:=J.f12 (Fa haft 12);obtain rfl:=J.f13 (Fa haft 13);go_simp;exact hK _ _ (e21 ⟨rfl,⟨V J.f0,V J.f1,V J.f2,V J.f3,V J.f4,V J.f5,V J.f6,V J.f7,V J.f8,V J.f9,V J.f10,V J.f11,V J.f12,V J.f13,λ_=>rfl,V J.f15,V J.f16,u2 J.f17,ub J.f18,uf hAs,V J.nA,λ_=>B4,J.bel,uf hAp⟩⟩)
   ·have hAp:L 19=false:=(Pl hcl 19 [18,17,16] hLi);have hAs:L 20=false:=(Pl hcl 20 [19,18,17,16] hLi);have B4:=J.b4 hAp;have q0:=(B4.cell (p:=⟨b,off+k * 5,none⟩) hbl).trans x0;have q1:=(B4.cell (p:=⟨b,off+k * 5+1,none⟩) hbl).trans x1;have q2:=(B4.cell (p:=⟨b,off+k * 5+2,none⟩) hbl).trans x2;have q3:=(B4.cell (p:=⟨b,off+k * 5+3,none⟩) hbl).trans x3;have q4:=(B4.cell (p:=⟨b,off+k * 5+4,none⟩) hbl).trans x4;obtain rfl:=J.f14 (Fa haft 14);go_simp;exact hK _ _ (e21 ⟨rfl,⟨V J.f0,V J.f1,V J.f2,V J.f3,V J.f4,V J.f5,V J.f6,V J.f7,V J.f8,V J.f9,V J.f10,V J.f11,V J.f12,V J.f13,V J.f14,λ_=>rfl,V J.f16,u2 J.f17,ub J.f18,uf hAs,V J.nA,λ_=>B4,J.bel,uf hAp⟩⟩)
   ·have hAp:L 19=false:=(Pl hcl 19 [18,17] hLi);have hAs:L 20=false:=(Pl hcl 20 [19,18,17] hLi);have B4:=J.b4 hAp;obtain rfl:=J.f8 (Fa haft 8);obtain rfl:=J.f10 (Fa haft 10);obtain rfl:=J.f15 (Fa haft 15);go_simp;go_wp2_with (go_at_call 87;refine (KW.out W B4).mono ?_;rintro e WN ⟨rfl,hb⟩)
    exact e21 ⟨rfl,⟨V J.f0,V J.f1,V J.f2,V J.f3,V J.f4,V J.f5,V J.f6,V J.f7,V J.f8,V J.f9,V J.f10,V J.f11,V J.f12,V J.f13,V J.f14,V J.f15,λ_=>rfl,λh h2=>(J.f17 (un h) (by rwa [zc rfl] at h2)).below hb lR,λh=>by obtain ⟨g,e,c⟩:=J.f18 (un h);exact ⟨g,e,λh2=>(hb.cell (World.block_lt_of_cell? _ _ (c (by rwa [zc rfl] at h2)))).trans (c (by rwa [zc rfl] at h2))⟩,uf hAs,V J.nA,λ_=>zi B4 hb,zi J.bel hb,uf hAp⟩⟩
   ·have hAp:L 19=false:=(Pl hcl 19 [18] hLi);have hAs:L 20=false:=(Pl hcl 20 [19,18] hLi);have B4:=J.b4 hAp;obtain rfl:=J.f7 (Fa haft 7);obtain rfl:=J.f16 (Fa haft 16);go_simp;go_wp2_with (go_at_call 85;refine (KL.out W).mono ?_;rintro e WN ⟨vt,rfl,hR,hb⟩;have hR2:=hR.base (B':=W2.heap.size) (HBs.out J.bel.size);clear hR)
    exact e21 ⟨rfl,⟨V J.f0,V J.f1,V J.f2,V J.f3,V J.f4,V J.f5,V J.f6,V J.f7,V J.f8,V J.f9,V J.f10,V J.f11,V J.f12,V J.f13,V J.f14,V J.f15,V J.f16,λ_ _=>hR2,(λh=>by rw [zc rfl,(Qh hcl 18 17 hLi)] at h;cases h),uf hAs,V J.nA,λ_=>zi B4 hb,zi J.bel hb,uf hAp⟩⟩
   ·have hAp:L 19=false:=(Qh hcl 19 18 hLi);have hAs:L 20=false:=(Pl hcl 20 [19] hLi);have B4:=J.b4 hAp;obtain ⟨a9,c9,rfl⟩:=(J.f17 (Fa haft 17) hAp).form;go_simp;exact hK _ _ (e21 ⟨rfl,⟨V J.f0,V J.f1,V J.f2,V J.f3,V J.f4,V J.f5,V J.f6,V J.f7,V J.f8,V J.f9,V J.f10,V J.f11,V J.f12,V J.f13,V J.f14,V J.f15,V J.f16,λh h2=>(J.f17 (un h) (by rwa [zc rfl] at h2)).below (ze bR _) lR,λ_=>⟨_,rfl,λ_=>by simp⟩,uf hAs,V J.nA,λ_=>ze B4 _,ze J.bel _,uf hAp⟩⟩)
   ·have hAp:L 19=false:=hLi;have hAs:L 20=false:=(Qh hcl 20 19 hLi);have B4:=J.b4 hAp;obtain rfl:=J.f0 (Fa haft 0);obtain ⟨g,rfl,hg⟩:=J.f18 (Fa haft 18);have hO4:=z4B HO.out B4;have hT4:=J.f17 (by cases hz:L 17 with | true=>rfl | false=>have:=hcl 18 17 (by kernel_rfl) hz;rw [(Fa haft 18)] at this;cases this) hAp;rw [if_pos (by rfl)];refine wp_append_own _ (.tmp 17) (.tmp 35) 83 rfl W2.heap.size 93 i0 (.slice none 0 0) 1 24 underlying83 hi0 hz0 hz1 hz2 rfl (by decide) _ _ _ rfl hO4 ⟨g,0,none⟩ 1 1 [v34] rfl rfl ?c1 ?c2 ?c3 ?c4 ?c5 ?_
    case c1 =>
     intro i u hi
     match i,hi with
     | 0,hi=>simp at hi;subst hi;simpa [Addr.add] using hg hAp
    case c2=>intro u hu;simp at hu;subst hu;obtain ⟨a9,c9,rfl⟩:=hT4.form;rfl
    case c3=>unfold maxLen;omega
    case c4=>omega
    case c5=>exact HBs.out (J.bel.size)
    intro v' w5 hown' hgrow' _;have hB5:Below W2.heap.size W2 w5:=J.bel.grown hgrow' J.bel.size (λq hq=>HBs2.out (hO4.lt q hq).1);have hR5:=((HRs.out.kept B4).grown hO4 hgrow').next (hT4.grown hO4 hgrow');exact hK _ _ (e21 ⟨rfl,⟨V J.f0,V J.f1,V J.f2,V J.f3,V J.f4,V J.f5,V J.f6,V J.f7,V J.f8,V J.f9,V J.f10,V J.f11,V J.f12,V J.f13,V J.f14,V J.f15,V J.f16,(λ_ h2=>by rw [zJ] at h2;cases h2),(λ_=>⟨g,rfl,λh2=>by rw [zJ] at h2;cases h2⟩),uf hAs,V J.nA,(λh=>by rw [zJ] at h;cases h),hB5,λ_=>⟨by rw [List.length_append];exact hown',hR5⟩⟩⟩)
   ·go_simp;exact hK _ _ (e21 ⟨rfl,⟨V J.f0,V J.f1,V J.f2,V J.f3,V J.f4,V J.f5,V J.f6,V J.f7,V J.f8,V J.f9,V J.f10,V J.f11,V J.f12,V J.f13,V J.f14,V J.f15,V J.f16,u2 J.f17,ub J.f18,λ_=>rfl,(λh=>by rw [zJ] at h;cases h),V J.b4,J.bel,V J.ownA⟩⟩)
theorem z68 {l:List Int} {k:Nat} (h:k < l.length):l.take (k+1)=l.take k ++ [l.getD k 0]:=by
 rw [List.take_succ_eq_append_getElem h,show l.getD k 0=l[k] by simp [List.getD,h]]
structure AdJ (w:World) (va vb U:Value) (xs:List Int) (k x y:Int) (p1 p2:Addr) (L:Nat->Bool) (W:World) (v5 v14 v15 v16 v17 v18 v19 v20 v21 v22 v23 v24 v25:Value):Prop where
 f0:L 0=true->v14=U
 f1:L 1=true->v15=va
 f2:L 2=true->v16=int i64 k
 f3:L 3=true->v17=.pointer (some p1)
 f4:L 4=true->v18=int i64 x
 f5:L 5=true->v19=vb
 f6:L 6=true->v20=int i64 k
 f7:L 7=true->v21=.pointer (some p2)
 f8:L 8=true->v22=int i64 y
 f9:L 9=true->v23=int i64 (x+y)
 f10:L 10=true->∃ g,v24=.slice (some ⟨g,0,none⟩) 1 1/\(L 11=false->W.cell? ⟨g,0,none⟩=some (int i64 (x+y)))
 f12:L 12=true->v5=v25
 n12:L 12=false->v5=U
 bel:Below w.heap.size w W
 own:L 11=false->W.ownsRow w.heap.size 3 1 U xs.length (xs.map (Value.int .i64))
 ownA:L 11=true->W.ownsRow w.heap.size 3 1 v25 (xs ++ [x+y]).length ((xs ++ [x+y]).map (Value.int .i64))
theorem z6P (va vb:Value) (a b:List Int) (hl:b.length=a.length) (h88:a.length<=88) (ha:a.all wtB=true) (hb:b.all wtB=true) (w:World) (h1:zA w va a) (h2:zA w vb b) :
  Calls prog 93 #[va,vb] w λe w'=>∃ v,e=.returned v/\zq w' w.heap.size w'.heap.size v (z1o a b)/\Below w.heap.size w w':=by
 have hmx:prog.follows .mixedOrders=true:=(by kernel_rfl);obtain ⟨i0,hi,hz0,hz1,hz2⟩:=info_parts z79;obtain ⟨aa,ca,rfl,_⟩:=h1.form;obtain ⟨ab,cb,rfl,_⟩:=h2.form;rw [hl] at h2 |-;have H1:=O h1;have H2:=O h2;have HL:=O hl;have HLn:=O (z5y hl);have HA:=O (λi (hi:i < a.length)=>z2P ha hi);have HB:=O (λi (hi:i < a.length)=>z2P hb (i:=i) (by omega));have HG:=O (λi (hi:i < a.length)=>z4I hl hi);have HR0:=O (z4Z w w.heap.size lR);have HK0:=O (ze (Below.refl w.heap.size w) (.cells #[] 3));clear h1 h2 ha hb hl;go_enter func93,ntmps93;go_wp2_with fail
 go_loopw [5,6] (λo i W=>∃ k:Nat,i=int i64 k/\k<=a.length/\Hid (W.ownsRow w.heap.size 3 1 o ((z1o a b).take k).length (((z1o a b).take k).map (Value.int .i64)))/\Hid (Below w.heap.size w W)) (λ_ i _=>a.length - (intOf i).toNat)
 case atStart=>exact ⟨0,rfl,nZ,by rw [List.take_zero];exact HR0.out.owns,HK0⟩
 case round =>
  clear HR0 HK0;obtain ⟨k,rfl,hk,HO,HBl⟩:=hrel;by_cases hlt:k < a.length
  case neg =>
   obtain rfl:k=a.length:=by omega
   have HR:=O (zq.of_owns HO.out);rw [<-HLn.out,List.take_length] at HR;go_wp2;go_ret;exact ⟨_,rfl,HR.out,HBl.out⟩
  obtain ⟨b1,o1,c1,e1,hc11,hc12,hb1,hx1⟩:=H1.out.get hlt;simp only [Value.slice.injEq,true_and] at e1;obtain ⟨rfl,rfl⟩:=e1;obtain ⟨b2,o2,c2,e2,hc21,hc22,hb2,hx2⟩:=H2.out.get (i:=k) (by rw [HL.out];exact hlt);rw [HL.out] at e2 hc21;simp only [Value.slice.injEq,true_and] at e2;obtain ⟨rfl,rfl⟩:=e2;have hxa:=HA.out k hlt;have hxb:=HB.out k hlt;have hol:((z1o a b).take k).length<=k:=(by rw [List.length_take];omega);have HT:Hid ((z1o a b).take (k+1)=(z1o a b).take k ++ [a.getD k 0+b.getD k 0]):=(by rw [Hid,z68 (by rw [HLn.out];exact hlt),HG.out k hlt]);generalize (z1o a b).take k=xs at HO HT hol;generalize a.getD k 0=x at hx1 hxa HT;generalize b.getD k 0=y at hx2 hxb HT;unfold maxLen at hc12 hc22;go_upto_region 5 with fail
  refine z0n (λL act W=>∃ v5 v14 v15 v16 v17 v18 v19 v20 v21 v22 v23 v24 v25:Value,act=⟨#[.slice (some ⟨b1,o1,none⟩) a.length ca,.slice (some ⟨b2,o2,none⟩) a.length cb,undef,undef,.slice none 0 0,v5,int i64 (k:Int),.slice (some ⟨w.heap.size,0,none⟩) 0 0,int i64 (k:Int),.slice (some ⟨b1,o1,none⟩) a.length ca,int i64 (a.length:Int),.bool true,u12,u13,v14,v15,v16,v17,v18,v19,v20,v21,v22,v23,v24,v25,undef],[]⟩/\AdJ w (.slice (some ⟨b1,o1,none⟩) a.length ca) (.slice (some ⟨b2,o2,none⟩) a.length cb) u5 xs (k:Int) x y ⟨b1,o1+k,none⟩ ⟨b2,o2+k,none⟩ L W v5 v14 v15 v16 v17 v18 v19 v20 v21 v22 v23 v24 v25) hmx (by kernel_rfl) ?hs ?hd ?h0
  case h0=>exact e13 ⟨rfl,⟨n0,n0,n0,n0,n0,n0,n0,n0,n0,n0,n0,n0,λ_=>rfl,z0X HBl.out,λ_=>(zq.of_owns HO.out |>.kept (w':=wr.drew) (λ_ _ _ _=>rfl)).owns,n0⟩⟩
  case hd =>
   intro L act W hJ hall;obtain ⟨v5,v14,v15,v16,v17,v18,v19,v20,v21,v22,v23,v24,v25,ha,J⟩:=hJ;subst ha;obtain rfl:=J.f12 (hall 12 (by decide));have HO5:=O (J.ownA (hall 11 (by decide)));have HB5:=O J.bel;obtain ⟨g',cap'',rfl⟩:=Joins.ownsRow_form HO5.out (by simp);clear J hall;go_wp2;go_roundw
   case rel=>exact ⟨k+1,by go_num,by omega,by rw [HT.out];exact HO5,HB5⟩
   case measure=>simp [intOf];omega
  case hs =>
   intro L act W i o hJ hcl ho hLi haft K hK;obtain ⟨v5,v14,v15,v16,v17,v18,v19,v20,v21,v22,v23,v24,v25,ha,J⟩:=hJ;skip;subst ha
   have hi':i < 13:=by
    have:=(bL ho)
    simpa using this
   rcases (by omega:i=0\/i=1\/i=2\/i=3\/i=4\/i=5\/i=6\/i=7\/i=8\/i=9\/i=10\/i=11\/i=12) with rfl | rfl | rfl | rfl | rfl | rfl | rfl | rfl | rfl | rfl | rfl | rfl | rfl
   all_goals
    simp only [List.getElem?_toArray,List.getElem?_cons_zero,List.getElem?_cons_succ,Option.some.injEq] at ho;subst ho;clear hi'
   ·have hL12:L 12=false:=hcl 12 0 (by kernel_rfl) hLi;obtain rfl:=J.n12 hL12;go_simp;exact hK _ _ (e13 ⟨rfl,⟨λ_=>rfl,V J.f1,V J.f2,V J.f3,V J.f4,V J.f5,V J.f6,V J.f7,V J.f8,V J.f9,ub J.f10,V J.f12,V J.n12,J.bel,V J.own,V J.ownA⟩⟩)
   ·go_simp;exact hK _ _ (e13 ⟨rfl,⟨V J.f0,λ_=>rfl,V J.f2,V J.f3,V J.f4,V J.f5,V J.f6,V J.f7,V J.f8,V J.f9,ub J.f10,V J.f12,V J.n12,J.bel,V J.own,V J.ownA⟩⟩)
   ·go_simp;exact hK _ _ (e13 ⟨rfl,⟨V J.f0,V J.f1,λ_=>rfl,V J.f3,V J.f4,V J.f5,V J.f6,V J.f7,V J.f8,V J.f9,ub J.f10,V J.f12,V J.n12,J.bel,V J.own,V J.ownA⟩⟩)
   ·obtain rfl:=J.f1 (Fa haft 1);obtain rfl:=J.f2 (Fa haft 2);go_simp;exact hK _ _ (e13 ⟨rfl,⟨V J.f0,V J.f1,V J.f2,λ_=>rfl,V J.f4,V J.f5,V J.f6,V J.f7,V J.f8,V J.f9,ub J.f10,V J.f12,V J.n12,J.bel,V J.own,V J.ownA⟩⟩)
   ·obtain rfl:=J.f3 (Fa haft 3);have q1:=(J.bel.cell (p:=⟨b1,o1+k,none⟩) hb1).trans hx1;go_simp;exact hK _ _ (e13 ⟨rfl,⟨V J.f0,V J.f1,V J.f2,V J.f3,λ_=>rfl,V J.f5,V J.f6,V J.f7,V J.f8,V J.f9,ub J.f10,V J.f12,V J.n12,J.bel,V J.own,V J.ownA⟩⟩)
   ·go_simp;exact hK _ _ (e13 ⟨rfl,⟨V J.f0,V J.f1,V J.f2,V J.f3,V J.f4,λ_=>rfl,V J.f6,V J.f7,V J.f8,V J.f9,ub J.f10,V J.f12,V J.n12,J.bel,V J.own,V J.ownA⟩⟩)
   ·go_simp;exact hK _ _ (e13 ⟨rfl,⟨V J.f0,V J.f1,V J.f2,V J.f3,V J.f4,V J.f5,λ_=>rfl,V J.f7,V J.f8,V J.f9,ub J.f10,V J.f12,V J.n12,J.bel,V J.own,V J.ownA⟩⟩)
   ·obtain rfl:=J.f5 (Fa haft 5);obtain rfl:=J.f6 (Fa haft 6);go_simp;exact hK _ _ (e13 ⟨rfl,⟨V J.f0,V J.f1,V J.f2,V J.f3,V J.f4,V J.f5,V J.f6,λ_=>rfl,V J.f8,V J.f9,ub J.f10,V J.f12,V J.n12,J.bel,V J.own,V J.ownA⟩⟩)
   ·obtain rfl:=J.f7 (Fa haft 7);have q1:=(J.bel.cell (p:=⟨b2,o2+k,none⟩) hb2).trans hx2;go_simp;exact hK _ _ (e13 ⟨rfl,⟨V J.f0,V J.f1,V J.f2,V J.f3,V J.f4,V J.f5,V J.f6,V J.f7,λ_=>rfl,V J.f9,ub J.f10,V J.f12,V J.n12,J.bel,V J.own,V J.ownA⟩⟩)
   ·obtain rfl:=J.f4 (Fa haft 4);obtain rfl:=J.f8 (Fa haft 8);go_simp;exact hK _ _ (e13 ⟨rfl,⟨V J.f0,V J.f1,V J.f2,V J.f3,V J.f4,V J.f5,V J.f6,V J.f7,V J.f8,λ_=>by rw [z56 (by omega)],ub J.f10,V J.f12,V J.n12,J.bel,V J.own,V J.ownA⟩⟩)
   ·obtain rfl:=J.f9 (Fa haft 9);go_simp;exact hK _ _ (e13 ⟨rfl,⟨V J.f0,V J.f1,V J.f2,V J.f3,V J.f4,V J.f5,V J.f6,V J.f7,V J.f8,V J.f9,λ_=>⟨_,rfl,λ_=>by simp⟩,V J.f12,V J.n12,(ze J.bel _),λh=>(J.own (un h)).alloc _,λh=>(J.ownA (un h)).alloc _⟩⟩)
   ·obtain rfl:=J.f0 (Fa haft 0);obtain ⟨g,rfl,hg⟩:=J.f10 (Fa haft 10);have hL12:L 12=false:=hcl 12 11 (by kernel_rfl) hLi;have hO4:=J.own hLi;rw [if_pos (by rfl)];refine wp_append_own _ (.tmp 14) (.tmp 24) 27 rfl w.heap.size 3 i0 (int i64 0) 1 8 underlying27 hi hz0 hz1 hz2 rfl (by decide) _ _ _ rfl hO4 ⟨g,0,none⟩ 1 1 [int i64 (x+y)] rfl rfl ?c1 ?c2 ?c3 ?c4 ?c5 ?_
    case c1 =>
     intro i u hi
     match i,hi with
     | 0,hi=>simp at hi;subst hi;simpa [Addr.add] using hg hLi
    case c2=>intro u hu;simp at hu;subst hu;rfl
    case c3=>unfold maxLen;omega
    case c4=>omega
    case c5=>exact J.bel.size
    intro v' w5 hown' hgrow' _;have hB5:Below w.heap.size w w5:=J.bel.grown hgrow' J.bel.size (λq hq=>(hO4.lt q hq).1);exact hK _ _ (e13 ⟨rfl,⟨V J.f0,V J.f1,V J.f2,V J.f3,V J.f4,V J.f5,V J.f6,V J.f7,V J.f8,V J.f9,(λh=>⟨_,rfl,λh2=>by rw [zJ] at h2;cases h2⟩),uf hL12,V J.n12,(hB5),(λh=>by rw [zJ] at h;cases h),λ_=>by rw [List.length_append,List.map_append];exact hown'⟩⟩)
   ·go_simp;exact hK _ _ (e13 ⟨rfl,⟨V J.f0,V J.f1,V J.f2,V J.f3,V J.f4,V J.f5,V J.f6,V J.f7,V J.f8,V J.f9,ub J.f10,λ_=>rfl,(λh=>by rw [zJ] at h;cases h),J.bel,V J.own,V J.ownA⟩⟩)
theorem zdH (ac ar:Option Addr) (cc cr:Nat) (t:T) (q:Int) (C:Nat) (hC:C<=88) (w:World) {z:Nat} (hc:z09 w z (.slice ac t.cols.length cc) t.cols) :
  Calls prog 94 #[.agg #[.slice ac t.cols.length cc,int i64 t.head,int i64 t.foot,.slice ar t.rows.length cr,int i64 t.gap],int i64 q,int i64 (C:Int)] w λe w'=>∃ v,e=.returned v/\zq w' w.heap.size w'.heap.size v (z0G (zo t q) C)/\Below w.heap.size w w':=by
 obtain ⟨i0,hi,hz0,hz1,hz2⟩:=info_parts z79;have hf0:=zdl;have HC:=O hc;have HLn:=O (z14 (zo t q) C);have K1:=ze (Below.refl w.heap.size w) (.cells #[.slice ac t.cols.length cc,int i64 t.head,int i64 t.foot,.slice ar t.rows.length cr,int i64 t.gap] 26);have X1:=zj w (.cells #[.slice ac t.cols.length cc,int i64 t.head,int i64 t.foot,.slice ar t.rows.length cr,int i64 t.gap] 26);have hs1:(w.alloc (.cells #[.slice ac t.cols.length cc,int i64 t.head,int i64 t.foot,.slice ar t.rows.length cr,int i64 t.gap] 26)).heap.size=w.heap.size+1:=(by simp);have HR0:=O (z4Z (w.alloc (.cells #[.slice ac t.cols.length cc,int i64 t.head,int i64 t.foot,.slice ar t.rows.length cr,int i64 t.gap] 26)) (w.heap.size+1) (by omega));have HK0:=O (ze K1 (.cells #[] 3));have HX0:=O ((Below.heap_alloc (w.alloc (.cells #[.slice ac t.cols.length cc,int i64 t.head,int i64 t.foot,.slice ar t.rows.length cr,int i64 t.gap] 26)) (.cells #[] 3) w.heap.size (by omega)).trans X1);rw [hs1] at HR0;clear hc K1 X1;go_enter func94,ntmps94;go_wp2_with fail
 go_loopw [7,8] (λo i W=>∃ k:Nat,i=int i64 k/\k<=C/\Hid (W.ownsRow (w.heap.size+1) 3 1 o ((z0G (zo t q) C).take k).length (((z0G (zo t q) C).take k).map (Value.int .i64)))/\Hid (Below w.heap.size w W)/\Hid (W.heap[w.heap.size]?=some (.cells #[.slice ac t.cols.length cc,int i64 t.head,int i64 t.foot,.slice ar t.rows.length cr,int i64 t.gap] 26))) (λ_ i _=>C - (intOf i).toNat)
 case atStart=>exact ⟨0,rfl,nZ,by rw [List.take_zero];exact HR0.out.owns,HK0,HX0⟩
 case round =>
  clear HR0 HK0 HX0;obtain ⟨k,rfl,hk,HO,HB,HX⟩:=hrel;by_cases hlt:k < C
  case neg =>
   obtain rfl:k=C:=by omega
   have HR:=O (zq.of_owns HO.out);rw [show (z0G (zo t q) k).take k=z0G (zo t q) k by rw [List.take_of_length_le (by rw [HLn.out];exact lR)]] at HR;go_wp2;go_ret;exact ⟨_,rfl,HR.out.base (by omega) lR,HB.out⟩
  have hwz:w.heap.size < wr.heap.size:=(bL HX.out);have b0:wr.cell? ⟨w.heap.size,0,none⟩=some (.slice ac t.cols.length cc):=zf HX.out;have b1:wr.cell? ⟨w.heap.size,1,none⟩=some (int i64 t.head):=zf HX.out;have b2:wr.cell? ⟨w.heap.size,2,none⟩=some (int i64 t.foot):=zf HX.out;have b3:wr.cell? ⟨w.heap.size,3,none⟩=some (.slice ar t.rows.length cr):=zf HX.out;have b4:wr.cell? ⟨w.heap.size,4,none⟩=some (int i64 t.gap):=zf HX.out;have KS:=O (z5d ac ar cc cr t (k:Int) (by omega) wr (HC.out.kept HB.out));have hkq:=z8S t q k;have hol:((z0G (zo t q) C).take k).length<=k:=(by rw [List.length_take];omega);have HT:Hid ((z0G (zo t q) C).take (k+1)=(z0G (zo t q) C).take k ++ [if zo t q k=true then (1:Int) else 0]):=(by rw [Hid,z68 (by rw [HLn.out];exact hlt),z5x hlt]);generalize sd t.cols k=p at KS hkq;generalize (z0G (zo t q) C).take k=xs at HO HT hol
  cases hp:zo t q k with
  | false =>
   rw [hp] at hkq HT;simp only [Bool.false_eq_true,if_false] at HT;clear hp;go_wp2_with fail
   refine KS.out.mono ?_;rintro e w1 ⟨rfl,hb1⟩;have HB1:=O (zi HB.out hb1);have HX1:=O ((hb1.block w.heap.size hwz).trans HX.out);have hO4:=(zq.of_owns HO.out |>.kept (λj h0 _ _=>hb1.block j h0)).owns;have hsz:w.heap.size+1<=w1.heap.size:=(by have:=hb1.size;omega);clear hb1 b0 b1 b2 b3 b4 HO HB HX;go_wp2_with (at_builtin;refine wpList_append_own _ rfl _ _ 27 rfl (w.heap.size+1) 3 i0 (int i64 0) 1 8 underlying27 hi hz0 hz1 hz2 rfl (by decide) _ _ _ rfl (hO4.alloc _) ⟨w1.heap.size,0,none⟩ 1 1 [int i64 0] rfl rfl ?c1 ?c2 ?c3 ?c4 ?c5 ?_)
   case c1 =>
    intro i u hi
    match i,hi with
    | 0,hi=>simp at hi;subst hi;simp [Addr.add]
   case c2=>intro u hu;simp at hu;subst hu;rfl
   case c3=>unfold maxLen;omega
   case c4=>omega
   case c5=>simp;omega
   intro v' w5 hown' hgrow' _;obtain ⟨hB5,hX5⟩:=z3o (Nat.le_succ _) hO4 HB1.out hgrow';have HB5:=O hB5;have HX5:=O ((hX5 w.heap.size (Nat.lt_succ_self _) (by omega)).trans HX1.out);have HO5:Hid (w5.ownsRow (w.heap.size+1) 3 1 v' (xs ++ [0]).length ((xs ++ [0]).map (Value.int .i64))):=(by rw [List.length_append,List.map_append];exact hown');obtain ⟨g',cap'',rfl⟩:=Joins.ownsRow_form hown' (by omega);clear hown' hgrow' hO4 hB5 hX5 HB1 HX1;go_wp2;go_roundw
   case rel=>exact ⟨k+1,by go_num,by omega,by rw [HT.out];exact HO5,HB5,HX5⟩
   case measure=>simp [intOf];omega
  | true =>
   rw [hp] at hkq HT;simp only [if_true] at HT;clear hp;go_wp2_with fail
   refine KS.out.mono ?_;rintro e w1 ⟨rfl,hb1⟩;have HB1:=O (zi HB.out hb1);have HX1:=O ((hb1.block w.heap.size hwz).trans HX.out);have hO4:=(zq.of_owns HO.out |>.kept (λj h0 _ _=>hb1.block j h0)).owns;have hsz:w.heap.size+1<=w1.heap.size:=(by have:=hb1.size;omega);clear hb1 b0 b1 b2 b3 b4 HO HB HX;go_wp2_with (at_builtin;refine wpList_append_own _ rfl _ _ 27 rfl (w.heap.size+1) 3 i0 (int i64 0) 1 8 underlying27 hi hz0 hz1 hz2 rfl (by decide) _ _ _ rfl (hO4.alloc _) ⟨w1.heap.size,0,none⟩ 1 1 [int i64 1] rfl rfl ?c1 ?c2 ?c3 ?c4 ?c5 ?_)
   case c1 =>
    intro i u hi
    match i,hi with
    | 0,hi=>simp at hi;subst hi;simp [Addr.add]
   case c2=>intro u hu;simp at hu;subst hu;rfl
   case c3=>unfold maxLen;omega
   case c4=>omega
   case c5=>simp;omega
   intro v' w5 hown' hgrow' _;obtain ⟨hB5,hX5⟩:=z3o (Nat.le_succ _) hO4 HB1.out hgrow';have HB5:=O hB5;have HX5:=O ((hX5 w.heap.size (Nat.lt_succ_self _) (by omega)).trans HX1.out);have HO5:Hid (w5.ownsRow (w.heap.size+1) 3 1 v' (xs ++ [1]).length ((xs ++ [1]).map (Value.int .i64))):=(by rw [List.length_append,List.map_append];exact hown');obtain ⟨g',cap'',rfl⟩:=Joins.ownsRow_form hown' (by omega);clear hown' hgrow' hO4 hB5 hX5 HB1 HX1;go_wp2;go_roundw
   case rel=>exact ⟨k+1,by go_num,by omega,by rw [HT.out];exact HO5,HB5,HX5⟩
   case measure=>simp [intOf];omega
theorem zdI (ac ar:Option Addr) (cc cr:Nat) (t:T) (width:Int) (hw:0<=width/\width<=300) (L:List Int) (C:Nat) (hC:C<=88) (hCt:C=zG t) (hLC:L.length=C) (hLs:L.all wtB=true) (ah aw:Option Addr) (ch cw:Nat) (w:World) {z:Nat} (hc:z09 w z (.slice ac t.cols.length cc) t.cols) (h1:zA w (.slice ah C ch) L) :
  Calls prog 92 #[.agg #[.slice ac t.cols.length cc,int i64 t.head,int i64 t.foot,.slice ar t.rows.length cr,int i64 t.gap],int i64 2,.slice ah C ch,.slice aw C cw,int i64 width] w λe w'=>∃ v,e=.returned v/\zq w' w.heap.size w'.heap.size v (z11 t width L)/\Below w.heap.size w w':=by
 have hmx:prog.follows .mixedOrders=true:=(by kernel_rfl);obtain ⟨i0,hi,hz0,hz1,hz2⟩:=info_parts z79;have HC:=O hc;have H1:=O h1;have HL:=O hLC;have HLn:Hid ((z11 t width L).length=C):=(by rw [Hid,z38 t width L,hLC]);have HG:=O (λk (hk:k < C)=>z4X (t:=t) (width:=width) (l:=L) (k:=k) (by omega));have HLg:=O (z3z hLs);have HKd:=O (λj (hj:j < C)=>z7a (t:=t) (k:=j) (by omega));clear hCt;have K1:=ze (Below.refl w.heap.size w) (.cells #[.slice ac t.cols.length cc,int i64 t.head,int i64 t.foot,.slice ar t.rows.length cr,int i64 t.gap] 26);have X1:=zj w (.cells #[.slice ac t.cols.length cc,int i64 t.head,int i64 t.foot,.slice ar t.rows.length cr,int i64 t.gap] 26);have hs1:(w.alloc (.cells #[.slice ac t.cols.length cc,int i64 t.head,int i64 t.foot,.slice ar t.rows.length cr,int i64 t.gap] 26)).heap.size=w.heap.size+1:=(by simp);have HR0:=O (z4Z (w.alloc (.cells #[.slice ac t.cols.length cc,int i64 t.head,int i64 t.foot,.slice ar t.rows.length cr,int i64 t.gap] 26)) (w.heap.size+1) (by omega));have HK0:=O (ze K1 (.cells #[] 3));have HX0:=O ((Below.heap_alloc (w.alloc (.cells #[.slice ac t.cols.length cc,int i64 t.head,int i64 t.foot,.slice ar t.rows.length cr,int i64 t.gap] 26)) (.cells #[] 3) w.heap.size (by omega)).trans X1);rw [hs1] at HR0;clear hc K1 X1 h1 hLC hLs;go_enter func92,ntmps92;go_wp2_with fail
 go_loopw [11,12] (λo i W=>∃ k:Nat,i=int i64 k/\k<=C/\Hid (W.ownsRow (w.heap.size+1) 3 1 o ((z11 t width L).take k).length (((z11 t width L).take k).map (Value.int .i64)))/\Hid (Below w.heap.size w W)/\Hid (W.heap[w.heap.size]?=some (.cells #[.slice ac t.cols.length cc,int i64 t.head,int i64 t.foot,.slice ar t.rows.length cr,int i64 t.gap] 26))) (λ_ i _=>C - (intOf i).toNat)
 case atStart=>exact ⟨0,rfl,nZ,by rw [List.take_zero];exact HR0.out.owns,HK0,HX0⟩
 case round =>
  clear HR0 HK0 HX0;obtain ⟨k,rfl,hk,HO,HB,HX⟩:=hrel;by_cases hlt:k < C
  case neg =>
   obtain rfl:k=C:=by omega
   have HR:=O (zq.of_owns HO.out);rw [show (z11 t width L).take k=z11 t width L by rw [List.take_of_length_le (by rw [HLn.out];exact lR)]] at HR;go_wp2;go_ret;exact ⟨_,rfl,HR.out.base (by omega) lR,HB.out⟩
  have hwz:w.heap.size < wr.heap.size:=(bL HX.out);have b0:wr.cell? ⟨w.heap.size,0,none⟩=some (.slice ac t.cols.length cc):=zf HX.out;have b1:wr.cell? ⟨w.heap.size,1,none⟩=some (int i64 t.head):=zf HX.out;have b2:wr.cell? ⟨w.heap.size,2,none⟩=some (int i64 t.foot):=zf HX.out;have b3:wr.cell? ⟨w.heap.size,3,none⟩=some (.slice ar t.rows.length cr):=zf HX.out;have b4:wr.cell? ⟨w.heap.size,4,none⟩=some (int i64 t.gap):=zf HX.out;have KS:=O (z5d ac ar cc cr t (k:Int) (by omega) wr (HC.out.kept HB.out));have hkq:=z8S t 2 k;have hol:((z11 t width L).take k).length<=k:=(by rw [List.length_take];omega);have HT:Hid ((z11 t width L).take (k+1)=(z11 t width L).take k ++ [(z11 t width L).getD k 0]):=(by rw [Hid,z68 (by rw [HLn.out];exact hlt)]);rw [HG.out k hlt] at HT;have hkd:=HKd.out k hlt;generalize (z11 t width L).take k=xs at HO HT hol;generalize sd t.cols k=p at KS hkq HT hkd
  cases hp:zo t 2 k with
  | false =>
   rw [hp] at hkq HT;simp only [Bool.false_eq_true,if_false] at HT;clear hp;go_wp2_with fail
   refine KS.out.mono ?_;rintro e w1 ⟨rfl,hb1⟩;have HB1:=O (ze (zi HB.out hb1) (.cells #[int i64 p.1,int i64 p.2] 105));have HX1:=O ((Below.heap_alloc w1 (.cells #[int i64 p.1,int i64 p.2] 105) w.heap.size (by have:=hb1.size;omega)).trans ((hb1.block w.heap.size hwz).trans HX.out));have hsz:w.heap.size+1<=w1.heap.size:=(by have:=hb1.size;omega);have hsz2:(w1.alloc (.cells #[int i64 p.1,int i64 p.2] 105)).heap.size=w1.heap.size+1:=(by simp);have HOx:=O (zq.of_owns HO.out |>.kept (w':=w1.alloc (.cells #[int i64 p.1,int i64 p.2] 105)) (λj h0 _ _=>(bA (nL h0 hb1.size)).trans (hb1.block j h0)));have HY:=O (zj w1 (.cells #[int i64 p.1,int i64 p.2] 105));clear hb1 b0 b1 b2 b3 b4 HO HB HX;go_upto_region 6 with fail
   generalize w1.alloc (.cells #[int i64 p.1,int i64 p.2] 105)=W2 at HB1 HX1 HOx HY hsz2 |-;generalize w1.heap.size=yb at HY hsz hsz2 |-;have hszW:w.heap.size+1<=W2.heap.size:=(by omega);clear hsz2;have y0:W2.cell? ⟨yb,0,none⟩=some (int i64 p.1):=zf HY.out;have hO4:=HOx.out.owns;go_wp2_with (at_builtin;refine wpList_append_own _ rfl _ _ 27 rfl (w.heap.size+1) 3 i0 (int i64 0) 1 8 underlying27 hi hz0 hz1 hz2 rfl (by decide) _ _ _ rfl (hO4.alloc _) ⟨W2.heap.size,0,none⟩ 1 1 [int i64 0] rfl rfl ?c1 ?c2 ?c3 ?c4 ?c5 ?_)
   case c1 =>
    intro i u hi
    match i,hi with
    | 0,hi=>simp at hi;subst hi;simp [Addr.add]
   case c2=>intro u hu;simp at hu;subst hu;rfl
   case c3=>unfold maxLen;omega
   case c4=>omega
   case c5=>simp;omega
   intro v' w5 hown' hgrow' _;obtain ⟨hB5,hX5⟩:=z3o (Nat.le_succ _) hO4 HB1.out hgrow';have HB5:=O hB5;have HX5:=O ((hX5 w.heap.size (Nat.lt_succ_self _) (by omega)).trans HX1.out);have HO5:Hid (w5.ownsRow (w.heap.size+1) 3 1 v' (xs ++ [0]).length ((xs ++ [0]).map (Value.int .i64))):=(by rw [List.length_append,List.map_append];exact hown');obtain ⟨g',cap'',rfl⟩:=Joins.ownsRow_form hown' (by omega);clear hown' hgrow' hO4 hB5 hX5 HB1 HX1;go_wp2;go_roundw
   case rel=>exact ⟨k+1,by go_num,by omega,by rw [HT.out];exact HO5,HB5,HX5⟩
   case measure=>simp [intOf];omega
  | true =>
   rw [hp] at hkq HT;simp only [if_true] at HT;have hp1:p.1=2:=(by simpa using hkq);clear hp hkq;obtain ⟨b5,o5,c5,e5,hc51,hc52,hb5,hx5⟩:=H1.out.get (i:=k) (by rw [HL.out];exact hlt);rw [HL.out] at e5 hc51;simp only [Value.slice.injEq,true_and] at e5;obtain ⟨rfl,rfl⟩:=e5;have hxs:=HLg.out k;generalize L.getD k 0=x at hx5 hxs HT;have hp2:1<=p.2/\p.2<=100:=(by omega);have hm0:0<=width * p.2:=Int.mul_nonneg hw.1 (by omega);have hm1:width * p.2<=30000:=Int.le_trans (Int.mul_le_mul hw.2 hp2.2 (by omega) (by omega)) (by omega);have hq:Int.tdiv (width * p.2) 100=width * p.2 / 100:=Int.tdiv_eq_ediv_of_nonneg hm0;unfold maxLen at hc52;go_wp2_with fail
   refine KS.out.mono ?_;rintro e w1 ⟨rfl,hb1⟩;have HB1:=O (ze (zi HB.out hb1) (.cells #[int i64 p.1,int i64 p.2] 105));have HX1:=O ((Below.heap_alloc w1 (.cells #[int i64 p.1,int i64 p.2] 105) w.heap.size (by have:=hb1.size;omega)).trans ((hb1.block w.heap.size hwz).trans HX.out));have hsz:w.heap.size+1<=w1.heap.size:=(by have:=hb1.size;omega);have hsz2:(w1.alloc (.cells #[int i64 p.1,int i64 p.2] 105)).heap.size=w1.heap.size+1:=(by simp);have HOx:=O (zq.of_owns HO.out |>.kept (w':=w1.alloc (.cells #[int i64 p.1,int i64 p.2] 105)) (λj h0 _ _=>(bA (nL h0 hb1.size)).trans (hb1.block j h0)));have HY:=O (zj w1 (.cells #[int i64 p.1,int i64 p.2] 105));clear hb1 b0 b1 b2 b3 b4 HO HB HX KS;rw [hp1] at HB1 HX1 hsz2 HOx HY |-;clear hp1;go_upto_region 6 with fail
   generalize w1.alloc (.cells #[int i64 2,int i64 p.2] 105)=W2 at HB1 HX1 HOx HY hsz2 |-;generalize w1.heap.size=yb at HY hsz hsz2 |-;have y0:W2.cell? ⟨yb,0,none⟩=some (int i64 2):=zf HY.out;have hyb:yb < W2.heap.size:=(bL HY.out);have hwz2:w.heap.size < W2.heap.size:=(by omega);have hszW:w.heap.size+1<=W2.heap.size:=(by omega);clear hsz2;have hne:=z0H W2;have m0:=zm (a:=⟨yb,1,none⟩) hyb (zf (p:=1) HY.out);have m1:=zm (a:=⟨b5,o5+k,none⟩) (nL hb5 HB1.out.size) ((HB1.out.cell (p:=⟨b5,o5+k,none⟩) hb5).trans hx5);have KM:=O (λ(W:World) (p:BW W) (i j:Int)=>z1U (z34 i j p.u));clear hx5;go_upto_region 8 with fail
   refine zv hmx (by kernel_rfl) ?_;repeat (go_big_quiet_step (first | (go_at_call 82;refine KM.out _ _ _ _)))
   refine wpQuiet_nil ?_;intro W5 hw';obtain ⟨⟨Wx,hW5⟩,hw''⟩:=hw';subst hw'';have HOz:=O (HOx.out.kept (λj h0 _ _=>hW5.block j h0));have HYz:=(hW5.block _ hyb).trans HY.out;replace HX1:=O ((hW5.block _ hwz2).trans HX1.out);replace HB1:=O (zi HB1.out hW5);have hsz5:w.heap.size+1<=W5.heap.size:=(by have:=hW5.size;omega);clear m0 m1 hne hW5 HOx HY y0;have y0:W5.cell? ⟨yb,0,none⟩=some (int i64 2):=zf HYz;have hO4:=HOz.out.owns;generalize max 0 (width * p.2 / 100 - x)=yy at HT |-;go_wp2_with (at_builtin;refine wpList_append_own _ rfl _ _ 27 rfl (w.heap.size+1) 3 i0 (int i64 0) 1 8 underlying27 hi hz0 hz1 hz2 rfl (by decide) _ _ _ rfl (hO4.alloc _) ⟨W5.heap.size,0,none⟩ 1 1 [int i64 yy] rfl rfl ?c1 ?c2 ?c3 ?c4 ?c5 ?_)
   case c1 =>
    intro i u hi
    match i,hi with
    | 0,hi=>simp at hi;subst hi;simp [Addr.add]
   case c2=>intro u hu;simp at hu;subst hu;rfl
   case c3=>unfold maxLen;omega
   case c4=>omega
   case c5=>simp;omega
   intro v' w5 hown' hgrow' _;obtain ⟨hB5,hX5⟩:=z3o (Nat.le_succ _) hO4 HB1.out hgrow';have HB5:=O hB5;have HX5:=O ((hX5 w.heap.size (Nat.lt_succ_self _) (by omega)).trans HX1.out);have HO5:Hid (w5.ownsRow (w.heap.size+1) 3 1 v' (xs ++ [yy]).length ((xs ++ [yy]).map (Value.int .i64))):=(by rw [List.length_append,List.map_append];exact hown');obtain ⟨g',cap'',rfl⟩:=Joins.ownsRow_form hown' (by omega);clear hown' hgrow' hO4 hB5 hX5 HB1 HX1;go_wp2;go_roundw
   case rel=>exact ⟨k+1,by go_num,by omega,by rw [HT.out];exact HO5,HB5,HX5⟩
   case measure=>simp [intOf];omega
theorem zdJ (ac ar:Option Addr) (cc cr:Nat) (t:T) (width:Int) (L:List Int) (C:Nat) (hC:C<=88) (hLC:L.length=C) (hLs:L.all wtB=true) (ah aw:Option Addr) (ch cw:Nat) (w:World) {z:Nat} (hc:z09 w z (.slice ac t.cols.length cc) t.cols) (h1:zA w (.slice ah C ch) L) (h2:zA w (.slice aw C cw) (z24 t)) (hWu:UpB (z24 t) 5000) (hWl:(z24 t).length=C) :
  Calls prog 92 #[.agg #[.slice ac t.cols.length cc,int i64 t.head,int i64 t.foot,.slice ar t.rows.length cr,int i64 t.gap],int i64 0,.slice ah C ch,.slice aw C cw,int i64 width] w λe w'=>∃ v,e=.returned v/\zq w' w.heap.size w'.heap.size v (z12 t L)/\Below w.heap.size w w':=by
 have hmx:prog.follows .mixedOrders=true:=(by kernel_rfl);obtain ⟨i0,hi,hz0,hz1,hz2⟩:=info_parts z79;have HC:=O hc;have H1:=O h1;have H2:=O h2;have HWl:=O hWl;have HWu:=O hWu;have HL:=O hLC;have HLn:Hid ((z12 t L).length=C):=(by rw [Hid,z2L t L,hLC]);have HG:=O (λk (hk:k < C)=>z4Y (t:=t) (l:=L) (k:=k) (by omega));have HLg:=O (z3z hLs);have K1:=ze (Below.refl w.heap.size w) (.cells #[.slice ac t.cols.length cc,int i64 t.head,int i64 t.foot,.slice ar t.rows.length cr,int i64 t.gap] 26);have X1:=zj w (.cells #[.slice ac t.cols.length cc,int i64 t.head,int i64 t.foot,.slice ar t.rows.length cr,int i64 t.gap] 26);have hs1:(w.alloc (.cells #[.slice ac t.cols.length cc,int i64 t.head,int i64 t.foot,.slice ar t.rows.length cr,int i64 t.gap] 26)).heap.size=w.heap.size+1:=(by simp);have HR0:=O (z4Z (w.alloc (.cells #[.slice ac t.cols.length cc,int i64 t.head,int i64 t.foot,.slice ar t.rows.length cr,int i64 t.gap] 26)) (w.heap.size+1) (by omega));have HK0:=O (ze K1 (.cells #[] 3));have HX0:=O ((Below.heap_alloc (w.alloc (.cells #[.slice ac t.cols.length cc,int i64 t.head,int i64 t.foot,.slice ar t.rows.length cr,int i64 t.gap] 26)) (.cells #[] 3) w.heap.size (by omega)).trans X1);rw [hs1] at HR0;clear hc K1 X1 h1 h2 hWu hWl hLC hLs;go_enter func92,ntmps92;go_wp2_with fail
 go_loopw [11,12] (λo i W=>∃ k:Nat,i=int i64 k/\k<=C/\Hid (W.ownsRow (w.heap.size+1) 3 1 o ((z12 t L).take k).length (((z12 t L).take k).map (Value.int .i64)))/\Hid (Below w.heap.size w W)/\Hid (W.heap[w.heap.size]?=some (.cells #[.slice ac t.cols.length cc,int i64 t.head,int i64 t.foot,.slice ar t.rows.length cr,int i64 t.gap] 26))) (λ_ i _=>C - (intOf i).toNat)
 case atStart=>exact ⟨0,rfl,nZ,by rw [List.take_zero];exact HR0.out.owns,HK0,HX0⟩
 case round =>
  clear HR0 HK0 HX0;obtain ⟨k,rfl,hk,HO,HB,HX⟩:=hrel;by_cases hlt:k < C
  case neg =>
   obtain rfl:k=C:=by omega
   have HR:=O (zq.of_owns HO.out);rw [show (z12 t L).take k=z12 t L by rw [List.take_of_length_le (by rw [HLn.out];exact lR)]] at HR;go_wp2;go_ret;exact ⟨_,rfl,HR.out.base (by omega) lR,HB.out⟩
  have hwz:w.heap.size < wr.heap.size:=(bL HX.out);have b0:wr.cell? ⟨w.heap.size,0,none⟩=some (.slice ac t.cols.length cc):=zf HX.out;have b1:wr.cell? ⟨w.heap.size,1,none⟩=some (int i64 t.head):=zf HX.out;have b2:wr.cell? ⟨w.heap.size,2,none⟩=some (int i64 t.foot):=zf HX.out;have b3:wr.cell? ⟨w.heap.size,3,none⟩=some (.slice ar t.rows.length cr):=zf HX.out;have b4:wr.cell? ⟨w.heap.size,4,none⟩=some (int i64 t.gap):=zf HX.out;have KS:=O (z5d ac ar cc cr t (k:Int) (by omega) wr (HC.out.kept HB.out));have hkq:=z8S t 0 k;have hol:((z12 t L).take k).length<=k:=(by rw [List.length_take];omega);have HT:Hid ((z12 t L).take (k+1)=(z12 t L).take k ++ [(z12 t L).getD k 0]):=(by rw [Hid,z68 (by rw [HLn.out];exact hlt)]);rw [HG.out k hlt] at HT;generalize (z12 t L).take k=xs at HO HT hol;generalize sd t.cols k=p at KS hkq HT
  cases hp:zo t 0 k with
  | false =>
   rw [hp] at hkq HT;simp only [Bool.false_eq_true,if_false] at HT;clear hp;go_wp2_with fail
   refine KS.out.mono ?_;rintro e w1 ⟨rfl,hb1⟩;have HB1:=O (ze (zi HB.out hb1) (.cells #[int i64 p.1,int i64 p.2] 105));have HX1:=O ((Below.heap_alloc w1 (.cells #[int i64 p.1,int i64 p.2] 105) w.heap.size (by have:=hb1.size;omega)).trans ((hb1.block w.heap.size hwz).trans HX.out));have hsz:w.heap.size+1<=w1.heap.size:=(by have:=hb1.size;omega);have hsz2:(w1.alloc (.cells #[int i64 p.1,int i64 p.2] 105)).heap.size=w1.heap.size+1:=(by simp);have HOx:=O (zq.of_owns HO.out |>.kept (w':=w1.alloc (.cells #[int i64 p.1,int i64 p.2] 105)) (λj h0 _ _=>(bA (nL h0 hb1.size)).trans (hb1.block j h0)));have HY:=O (zj w1 (.cells #[int i64 p.1,int i64 p.2] 105));clear hb1 b0 b1 b2 b3 b4 HO HB HX;go_upto_region 6 with fail
   generalize w1.alloc (.cells #[int i64 p.1,int i64 p.2] 105)=W2 at HB1 HX1 HOx HY hsz2 |-;generalize w1.heap.size=yb at HY hsz hsz2 |-;have hszW:w.heap.size+1<=W2.heap.size:=(by omega);clear hsz2;have y0:W2.cell? ⟨yb,0,none⟩=some (int i64 p.1):=zf HY.out;have hO4:=HOx.out.owns;go_wp2_with (at_builtin;refine wpList_append_own _ rfl _ _ 27 rfl (w.heap.size+1) 3 i0 (int i64 0) 1 8 underlying27 hi hz0 hz1 hz2 rfl (by decide) _ _ _ rfl (hO4.alloc _) ⟨W2.heap.size,0,none⟩ 1 1 [int i64 0] rfl rfl ?c1 ?c2 ?c3 ?c4 ?c5 ?_)
   case c1 =>
    intro i u hi
    match i,hi with
    | 0,hi=>simp at hi;subst hi;simp [Addr.add]
   case c2=>intro u hu;simp at hu;subst hu;rfl
   case c3=>unfold maxLen;omega
   case c4=>omega
   case c5=>simp;omega
   intro v' w5 hown' hgrow' _;obtain ⟨hB5,hX5⟩:=z3o (Nat.le_succ _) hO4 HB1.out hgrow';have HB5:=O hB5;have HX5:=O ((hX5 w.heap.size (Nat.lt_succ_self _) (by omega)).trans HX1.out);have HO5:Hid (w5.ownsRow (w.heap.size+1) 3 1 v' (xs ++ [0]).length ((xs ++ [0]).map (Value.int .i64))):=(by rw [List.length_append,List.map_append];exact hown');obtain ⟨g',cap'',rfl⟩:=Joins.ownsRow_form hown' (by omega);clear hown' hgrow' hO4 hB5 hX5 HB1 HX1;go_wp2;go_roundw
   case rel=>exact ⟨k+1,by go_num,by omega,by rw [HT.out];exact HO5,HB5,HX5⟩
   case measure=>simp [intOf];omega
  | true =>
   rw [hp] at hkq HT;simp only [if_true] at HT;have hp1:p.1=0:=(by simpa using hkq);clear hp hkq;obtain ⟨b5,o5,c5,e5,hc51,hc52,hb5,hx5⟩:=H1.out.get (i:=k) (by rw [HL.out];exact hlt);rw [HL.out] at e5 hc51;simp only [Value.slice.injEq,true_and] at e5;obtain ⟨rfl,rfl⟩:=e5;have hxs:=HLg.out k;generalize L.getD k 0=x at hx5 hxs HT;obtain ⟨b6,o6,c6,e6,hc61,hc62,hb6,hx6⟩:=H2.out.get (i:=k) (by rw [HWl.out];exact hlt);rw [HWl.out] at e6 hc61;simp only [Value.slice.injEq,true_and] at e6;obtain ⟨rfl,rfl⟩:=e6;have hys:=HWu.out k (by rw [HWl.out];exact hlt);generalize (z24 t).getD k 0=y at hx6 hys HT;unfold maxLen at hc52 hc62;go_wp2_with fail
   refine KS.out.mono ?_;rintro e w1 ⟨rfl,hb1⟩;have HB1:=O (ze (zi HB.out hb1) (.cells #[int i64 p.1,int i64 p.2] 105));have HX1:=O ((Below.heap_alloc w1 (.cells #[int i64 p.1,int i64 p.2] 105) w.heap.size (by have:=hb1.size;omega)).trans ((hb1.block w.heap.size hwz).trans HX.out));have hsz:w.heap.size+1<=w1.heap.size:=(by have:=hb1.size;omega);have hsz2:(w1.alloc (.cells #[int i64 p.1,int i64 p.2] 105)).heap.size=w1.heap.size+1:=(by simp);have HOx:=O (zq.of_owns HO.out |>.kept (w':=w1.alloc (.cells #[int i64 p.1,int i64 p.2] 105)) (λj h0 _ _=>(bA (nL h0 hb1.size)).trans (hb1.block j h0)));have HY:=O (zj w1 (.cells #[int i64 p.1,int i64 p.2] 105));clear hb1 b0 b1 b2 b3 b4 HO HB HX KS;rw [hp1] at HB1 HX1 hsz2 HOx HY |-;clear hp1;go_upto_region 6 with fail
   generalize w1.alloc (.cells #[int i64 0,int i64 p.2] 105)=W2 at HB1 HX1 HOx HY hsz2 |-;generalize w1.heap.size=yb at HY hsz hsz2 |-;have y0:W2.cell? ⟨yb,0,none⟩=some (int i64 0):=zf HY.out;have hyb:yb < W2.heap.size:=(bL HY.out);have hwz2:w.heap.size < W2.heap.size:=(by omega);have hszW:w.heap.size+1<=W2.heap.size:=(by omega);clear hsz2;have hne:=z0H W2;have m0:=zm (a:=⟨yb,1,none⟩) hyb (zf (p:=1) HY.out);have m1:=zm (a:=⟨b5,o5+k,none⟩) (nL hb5 HB1.out.size) ((HB1.out.cell (p:=⟨b5,o5+k,none⟩) hb5).trans hx5);have m2:=zm (a:=⟨b6,o6+k,none⟩) (nL hb6 HB1.out.size) ((HB1.out.cell (p:=⟨b6,o6+k,none⟩) hb6).trans hx6);have KM:=O (λ(W:World) (p:BW W) (i j:Int)=>z1U (z34 i j p.u));clear hx5 hx6;go_upto_region 10 with fail
   refine zv hmx (by kernel_rfl) ?_;repeat (go_big_quiet_step (first | (go_at_call 82;refine KM.out _ _ _ _)))
   refine wpQuiet_nil ?_;intro W5 hw';obtain ⟨⟨Wx,hW5⟩,hw''⟩:=hw';subst hw'';have HOz:=O (HOx.out.kept (λj h0 _ _=>hW5.block j h0));have HYz:=(hW5.block _ hyb).trans HY.out;replace HX1:=O ((hW5.block _ hwz2).trans HX1.out);replace HB1:=O (zi HB1.out hW5);have hsz5:w.heap.size+1<=W5.heap.size:=(by have:=hW5.size;omega);clear m0 m1 m2 hne hW5 HOx HY y0;have y0:W5.cell? ⟨yb,0,none⟩=some (int i64 0):=zf HYz;have hO4:=HOz.out.owns;generalize max 0 (y - x)=yy at HT |-;go_wp2_with (at_builtin;refine wpList_append_own _ rfl _ _ 27 rfl (w.heap.size+1) 3 i0 (int i64 0) 1 8 underlying27 hi hz0 hz1 hz2 rfl (by decide) _ _ _ rfl (hO4.alloc _) ⟨W5.heap.size,0,none⟩ 1 1 [int i64 yy] rfl rfl ?c1 ?c2 ?c3 ?c4 ?c5 ?_)
   case c1 =>
    intro i u hi
    match i,hi with
    | 0,hi=>simp at hi;subst hi;simp [Addr.add]
   case c2=>intro u hu;simp at hu;subst hu;rfl
   case c3=>unfold maxLen;omega
   case c4=>omega
   case c5=>simp;omega
   intro v' w5 hown' hgrow' _;obtain ⟨hB5,hX5⟩:=z3o (Nat.le_succ _) hO4 HB1.out hgrow';have HB5:=O hB5;have HX5:=O ((hX5 w.heap.size (Nat.lt_succ_self _) (by omega)).trans HX1.out);have HO5:Hid (w5.ownsRow (w.heap.size+1) 3 1 v' (xs ++ [yy]).length ((xs ++ [yy]).map (Value.int .i64))):=(by rw [List.length_append,List.map_append];exact hown');obtain ⟨g',cap'',rfl⟩:=Joins.ownsRow_form hown' (by omega);clear hown' hgrow' hO4 hB5 hX5 HB1 HX1;go_wp2;go_roundw
   case rel=>exact ⟨k+1,by go_num,by omega,by rw [HT.out];exact HO5,HB5,HX5⟩
   case measure=>simp [intOf];omega
end Go.Proofs.YtggmjiddadjilahGreat
