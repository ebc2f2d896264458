/-
  PROVED HERE: the model's l7Lines at a drawn table's grid, by any widths: the lines of each cell, in memory of their own; nothing that was in memory is turned. Also: 3 more texts of the same proof.
-/
import Derived.Test.YtggmjiddadjilahGreatG31
import Derived.Test.YtggmjiddadjilahGreatG34
set_option maxRecDepth 1000000
set_option maxHeartbeats 40000000
namespace Go.Proofs.YtggmjiddadjilahGreat
open Value (int)
open IntKind (i64)
open Go.RowKit Go.BigFrame
structure L7J (w W1 W3:World) (BB:Nat) (ac ar ag:Option Addr) (cc cr cg:Nat) (t:T) (x:GC) (U:Value) (us:List Value) (ls:List (List ByteArray)) (lns:List ByteArray) (s:ByteArray) (q:Int) (va:Value) (k tb gb cb b off:Nat) (L:Nat->Bool) (W:World) (v7 v17 v18 v19 v20 v21 v22 v23 v24 v25 v26 v27 v28 v29 v30 v31 v32 v33 v34 v35 v36:Value):Prop where
 f0:L 0=true->v17=U
 f1:L 1=true->v18=.agg #[.slice ac t.cols.length cc,int i64 t.head,int i64 t.foot,.slice ar t.rows.length cr,int i64 t.gap]
 f2:L 2=true->v19=.pointer (some ⟨gb,2,none⟩)
 f3:L 3=true->v20=.slice (some ⟨b,off,none⟩) (zh t).cells.length cg
 f4:L 4=true->v21=int i64 (k:Int)
 f5:L 5=true->v22=.pointer (some ⟨b,off+k * 5,none⟩)
 f6:L 6=true->v23=.agg #[int i64 x.row,int i64 x.col,int i64 x.rows,int i64 x.cols,int i64 x.ins]
 f7:L 7=true->v24=.string s
 f8:L 8=true->v25=va
 f9:L 9=true->v26=.pointer (some ⟨tb,4,none⟩)
 f10:L 10=true->v27=int i64 t.gap
 f11:L 11=true->v28=.pointer (some ⟨gb,2,none⟩)
 f12:L 12=true->v29=.slice (some ⟨b,off,none⟩) (zh t).cells.length cg
 f13:L 13=true->v30=int i64 (k:Int)
 f14:L 14=true->v31=.pointer (some ⟨b,off+k * 5,none⟩)
 f15:L 15=true->v32=.agg #[int i64 x.row,int i64 x.col,int i64 x.rows,int i64 x.cols,int i64 x.ins]
 f16:L 16=true->v33=int i64 q
 f17:L 17=true->L 19=false->z1F W BB v34 lns
 f18:L 18=true->∃ g,v35=.slice (some ⟨g,0,none⟩) 1 1/\(L 19=false->W.cell? ⟨g,0,none⟩=some v34)
 fA:L 20=true->v7=v36
 nA:L 20=false->v7=U
 b4:L 19=false->Below W3.heap.size W3 W
 bel:Below W1.heap.size W1 W
 ownA:L 19=true->W.ownsRow BB 93 1 v36 (us ++ [v34]).length (us ++ [v34])/\z2F W BB (us ++ [v34]) (ls ++ [lns])
theorem z9g (ac ar ag al:Option Addr) (cc cr cg cl n:Nat) (t:T) (hD:z0h t) (l:List Int) (hl1:l.length<=1048576) (w:World) {z zg:Nat} (hT:TA w z ac ar cc cr t) (hG:z1I w zg (.slice ag (zh t).cells.length cg) (zh t).cells) (hI:zC w (.slice al n cl) l) :
  Calls Tryz.prog 50 #[.agg #[.slice ac t.cols.length cc,int i64 t.head,int i64 t.foot,.slice ar t.rows.length cr,int i64 t.gap],.agg #[int i64 (zh t).rows,int i64 (zh t).cols,.slice ag (zh t).cells.length cg],.slice al n cl] w fun e w'=>∃ v,e=.returned v/\z2b w' w.heap.size v (z0V t l (zh t).cells)/\Below w.heap.size w w':=by
 have hmx:Tryz.prog.follows .mixedOrders=true:=(by kernel_rfl);obtain ⟨i0,hi0,hz0,hz1,hz2⟩:=info_parts zgY;obtain ⟨h40,C,hgc,hC88,hcel⟩:=z35 hD;obtain ⟨W1,hW1⟩:∃ W1,w.alloc (.cells #[.slice ac t.cols.length cc,int i64 t.head,int i64 t.foot,.slice ar t.rows.length cr,int i64 t.gap] 26)=W1:=⟨_,rfl⟩;have hs1:W1.heap.size=w.heap.size+1:=(by rw [<-hW1];simp);have K1:Below w.heap.size w W1:=(by rw [<-hW1];exact ze (Below.refl _ _) _);have X1:W1.heap[w.heap.size]?=some (.cells #[.slice ac t.cols.length cc,int i64 t.head,int i64 t.foot,.slice ar t.rows.length cr,int i64 t.gap] 26):=(by rw [<-hW1];exact zm _ _);obtain ⟨W2,hW2⟩:∃ W2,W1.alloc (.cells #[int i64 (zh t).rows,int i64 (zh t).cols,.slice ag (zh t).cells.length cg] 38)=W2:=⟨_,rfl⟩;have hs2:W2.heap.size=w.heap.size+2:=(by rw [<-hW2];simp [hs1]);have K2:Below w.heap.size w W2:=(by rw [<-hW2];exact ze K1 _);have X2:W2.heap[w.heap.size]?=some (.cells #[.slice ac t.cols.length cc,int i64 t.head,int i64 t.foot,.slice ar t.rows.length cr,int i64 t.gap] 26):=(by rw [<-hW2];exact (Below.heap_alloc _ _ _ (by omega)).trans X1)
 have Y2:W2.heap[w.heap.size+1]?=some (.cells #[int i64 (zh t).rows,int i64 (zh t).cols,.slice ag (zh t).cells.length cg] 38):=by
  have:=zm W1 (.cells #[int i64 (zh t).rows,int i64 (zh t).cols,.slice ag (zh t).cells.length cg] 38);rw [hW2,hs1] at this;exact this
 have HM:=Hd (And.intro (hT.kept K2) (And.intro (hG.kept K2) (And.intro (hI.kept K2) (And.intro X2 Y2))));have HK2:=Hd K2;have HCel:=Hd hcel;have HLe:=Hd (z3v t l (zh t).cells);have HLn:=Hd (fun k (h:k < (zh t).cells.length)=>z99 t l h);have HLs:=Hd (z9a t l (zh t).cells);have HB0:=Hd (ze (Below.refl W2.heap.size W2) (.cells #[] 93));have HO0:Hid ((W2.alloc (.cells #[] 93)).ownsRow W2.heap.size 93 1 (.slice (some ⟨W2.heap.size,0,none⟩) 0 0) ([]:List Value).length []):=World.ownsRow_made (base:=W2.heap.size) (e:=93) (size:=1) W2 #[] 0 (Nat.le_refl _) (Nat.zero_le _) rfl;clear hT hG hI X1 K1 X2 Y2 K2 hcel hgc hD;go_enter Tryz.func50,Tryz.ntmps50;go_upto_region 1 with fail
 clear hW1 hW2 W1 hs1;have HS2:=Hd hs2;go_wp2_with fail
 rw [show w.heap.size+1+1=W2.heap.size from hs2.symm];clear hs2;go_loopw [7,8] (fun o i W=>∃ (k:Nat) (us:List Value),i=int i64 k/\k<=(zh t).cells.length/\Hid (W.ownsRow W2.heap.size 93 1 o us.length us)/\Hid (z2F W W2.heap.size us ((z0V t l (zh t).cells).take k))/\Hid (Below W2.heap.size W2 W)) (fun _ i _=>(zh t).cells.length - (intOf i).toNat)
 case atStart=>exact ⟨0,[],rfl,Nat.zero_le _,HO0,by rw [List.take_zero];exact z2F.nil _ _,HB0⟩
 case round =>
  clear HO0 HB0;obtain ⟨k,us,rfl,hk,HO,HRs,HB1⟩:=hrel;have X:=Hd ((HB1.out.block w.heap.size (by rw [HS2.out];omega)).trans HM.out.2.2.2.1);have Y:=Hd ((HB1.out.block (w.heap.size+1) (by rw [HS2.out];omega)).trans HM.out.2.2.2.2);have y2:wr.cell? ⟨w.heap.size+1,2,none⟩=some (.slice ag (zh t).cells.length cg):=zf Y.out;have hyw:w.heap.size+1 < wr.heap.size:=(bL Y.out);by_cases hkl:k < (zh t).cells.length
  case neg =>
   obtain rfl:k=(zh t).cells.length:=by omega
   rw [<-HLe.out,List.take_length] at HRs;have HF:=Hd (HRs.out.lls HO.out (z:=w.heap.size) (by rw [HS2.out];omega) (by rw [HS2.out];omega) HLs.out);have HK:=Hd (HK2.out.trans (HB1.out.mono (by rw [HS2.out];omega)));go_wp2;go_ret;exact ⟨_,rfl,HF.out,HK.out⟩
  obtain ⟨b,off,cap',e',hc1,hc2,hbl,hx,hxo⟩:=At.get (HM.out.2.1.kept HB1.out) hkl;simp only [Value.slice.injEq,true_and] at e';obtain ⟨rfl,rfl⟩:=e';have HNx:=Hd (HLn.out k hkl);have HCx:=Hd (HCel.out k hkl);generalize (z0V t l (zh t).cells).take k=ls at HRs HNx;generalize (zh t).cells.getD k dG=x at hx hxo HNx HCx;obtain ⟨x0,x1,x2,x3,x4⟩:=hx;have hsz:(zR t x).size<=maxLen:=z6I HCx.out HM.out.1.2;have HQ:=Hd (zbT l t.gap x);have KT:=Hd (fun W (h:Below wr.heap.size wr W)=>zat ac ar cc cr t x HCx.out W ((HM.out.1.2.kept HB1.out).kept h));have KW:=Hd (fun W (h:Below wr.heap.size wr W)=>zec _ l hl1 t.gap x hxo W ((HM.out.2.2.1.kept HB1.out).kept h));have KL:=Hd (fun W=>zdE (zR t x) hsz (z2t l t.gap x) HQ.out W);have HNy:Hid ((z0V t l (zh t).cells).take (k+1)=ls ++ [zZ (z1f (z2t l t.gap x) (zX (zR t x)))]):=HNx.out;clear HNx HQ hsz;have HNx:=HNy;clear HNy HCx hxo;generalize zZ (z1f (z2t l t.gap x) (zX (zR t x)))=lns at KL HNx;generalize z2t l t.gap x=q at KW KL;generalize zR t x=s at KT KL;have HX:Hid (wr.heap[w.heap.size]?=some (.cells #[.slice ac t.cols.length cc,int i64 t.head,int i64 t.foot,.slice ar t.rows.length cr,int i64 t.gap] 26)):=X;have HY:Hid (wr.heap[w.heap.size+1]?=some (.cells #[int i64 (zh t).rows,int i64 (zh t).cols,.slice (some ⟨b,off,none⟩) (zh t).cells.length cg] 38)):=Y;have hlt0:w.heap.size < wr.heap.size:=(by omega);have hlg:=hyw;have husl:us.length<=40:=(by have h1:=HRs.out.1;have h2:=congrArg List.length HNx.out;rw [List.length_append,List.length_take,List.length_singleton] at h2;omega);have HBs:Hid (∀ {m:Nat},W2.heap.size<=m->W2.heap.size<=m):=fun h=>h;have HBs2:Hid (∀ {m:Nat},W2.heap.size<=m->W2.heap.size<=m):=fun h=>h;unfold maxLen at hc2;clear X Y HCel HLn HLs HLe;go_upto_region 5 with fail
  refine z0n (fun L act W=>∃ v7 v17 v18 v19 v20 v21 v22 v23 v24 v25 v26 v27 v28 v29 v30 v31 v32 v33 v34 v35 v36:Value,act=⟨#[.agg #[.slice ac t.cols.length cc,int i64 t.head,int i64 t.foot,.slice ar t.rows.length cr,int i64 t.gap],.agg #[int i64 (zh t).rows,int i64 (zh t).cols,.slice (some ⟨b,off,none⟩) (zh t).cells.length cg],.slice al n cl,.pointer (some ⟨w.heap.size,0,none⟩),.pointer (some ⟨w.heap.size+1,0,none⟩),undef,.slice none 0 0,v7,int i64 (k:Int),.slice (some ⟨W2.heap.size,0,none⟩) 0 0,int i64 (k:Int),.pointer (some ⟨w.heap.size+1,2,none⟩),.slice (some ⟨b,off,none⟩) (zh t).cells.length cg,int i64 ((zh t).cells.length:Int),.bool true,u15,u16,v17,v18,v19,v20,v21,v22,v23,v24,v25,v26,v27,v28,v29,v30,v31,v32,v33,v34,v35,v36,undef],[]⟩/\L7J w W2 wr W2.heap.size ac ar (some ⟨b,off,none⟩) cc cr cg t x u7 us ls lns s q (.slice al n cl) k w.heap.size (w.heap.size+1) 0 b off L W v7 v17 v18 v19 v20 v21 v22 v23 v24 v25 v26 v27 v28 v29 v30 v31 v32 v33 v34 v35 v36) hmx (by kernel_rfl) ?hs ?hd ?h0
  case h0=>exact e21 ⟨rfl,⟨n0,n0,n0,n0,n0,n0,n0,n0,n0,n0,n0,n0,n0,n0,n0,n0,n0,n0,n0,n0,fun _=>rfl,fun _=>z0X (Below.refl _ _),z0X HB1.out,n0⟩⟩
  case hd =>
   intro L act W hJ hall;obtain ⟨v7,v17,v18,v19,v20,v21,v22,v23,v24,v25,v26,v27,v28,v29,v30,v31,v32,v33,v34,v35,v36,ha,J⟩:=hJ;subst ha;obtain rfl:=J.fA (hall 20 (by decide));obtain ⟨ho5,hr5⟩:=J.ownA (hall 19 (by decide));have HO5:=Hd ho5;have HR5:=Hd hr5;have HB5:=Hd J.bel;obtain ⟨g',cap'',rfl⟩:=Joins.ownsRow_form HO5.out (by simp);clear J hall ho5 hr5;go_wp2;go_roundw
   case rel=>exact ⟨k+1,_,by go_num,by omega,HO5,by rw [HNx.out];exact HR5,HB5⟩
   case measure=>simp [intOf];omega
  case hs =>
   intro L act W i o hJ hcl ho hLi haft K hK;obtain ⟨v7,v17,v18,v19,v20,v21,v22,v23,v24,v25,v26,v27,v28,v29,v30,v31,v32,v33,v34,v35,v36,ha,J⟩:=hJ;subst ha
   have hi':i < 21:=by
    have:=(bL ho)
    simpa using this
   rcases (by omega:i=0\/i=1\/i=2\/i=3\/i=4\/i=5\/i=6\/i=7\/i=8\/i=9\/i=10\/i=11\/i=12\/i=13\/i=14\/i=15\/i=16\/i=17\/i=18\/i=19\/i=20) with rfl | rfl | rfl | rfl | rfl | rfl | rfl | rfl | rfl | rfl | rfl | rfl | rfl | rfl | rfl | rfl | rfl | rfl | rfl | rfl | rfl
   all_goals
    simp only [List.getElem?_toArray,List.getElem?_cons_zero,List.getElem?_cons_succ,Option.some.injEq] at ho;subst ho;clear hi'
   ·have hAp:L 19=false:=(Qh hcl 19 0 hLi);have hAs:L 20=false:=(Pl hcl 20 [19] hLi);have B4:=J.b4 hAp;obtain rfl:=J.nA hAs;go_simp;exact hK _ _ (e21 ⟨rfl,⟨fun _=>rfl,uq J.f1,uq J.f2,uq J.f3,uq J.f4,uq J.f5,uq J.f6,uq J.f7,uq J.f8,uq J.f9,uq J.f10,uq J.f11,uq J.f12,uq J.f13,uq J.f14,uq J.f15,uq J.f16,u2 J.f17,ub J.f18,uf hAs,uq J.nA,fun _=>B4,J.bel,uf hAp⟩⟩)
   ·have hAp:L 19=false:=(Pl hcl 19 [18,17,7] hLi);have hAs:L 20=false:=(Pl hcl 20 [19,18,17,7] hLi);have B4:=J.b4 hAp;obtain ⟨q0,q1,q2,q3,q4⟩:=zK ((B4.block _ hlt0).trans HX.out);have hl:=Nat.lt_of_lt_of_le hlt0 B4.size;go_simp;exact hK _ _ (e21 ⟨rfl,⟨uq J.f0,fun _=>rfl,uq J.f2,uq J.f3,uq J.f4,uq J.f5,uq J.f6,uq J.f7,uq J.f8,uq J.f9,uq J.f10,uq J.f11,uq J.f12,uq J.f13,uq J.f14,uq J.f15,uq J.f16,u2 J.f17,ub J.f18,uf hAs,uq J.nA,fun _=>B4,J.bel,uf hAp⟩⟩)
   ·have hAp:L 19=false:=(Pl hcl 19 [18,17,7,6,5,3] hLi);have hAs:L 20=false:=(Pl hcl 20 [19,18,17,7,6,5,3] hLi);have B4:=J.b4 hAp;go_simp;exact hK _ _ (e21 ⟨rfl,⟨uq J.f0,uq J.f1,fun _=>rfl,uq J.f3,uq J.f4,uq J.f5,uq J.f6,uq J.f7,uq J.f8,uq J.f9,uq J.f10,uq J.f11,uq J.f12,uq J.f13,uq J.f14,uq J.f15,uq J.f16,u2 J.f17,ub J.f18,uf hAs,uq J.nA,fun _=>B4,J.bel,uf hAp⟩⟩)
   ·have hAp:L 19=false:=(Pl hcl 19 [18,17,7,6,5] hLi);have hAs:L 20=false:=(Pl hcl 20 [19,18,17,7,6,5] hLi);have B4:=J.b4 hAp;obtain ⟨q0,q1,q2⟩:=z25 ((B4.block _ hlg).trans HY.out);have hl:=Nat.lt_of_lt_of_le hlg B4.size;obtain rfl:=J.f2 (Fa haft 2);go_simp;exact hK _ _ (e21 ⟨rfl,⟨uq J.f0,uq J.f1,uq J.f2,fun _=>rfl,uq J.f4,uq J.f5,uq J.f6,uq J.f7,uq J.f8,uq J.f9,uq J.f10,uq J.f11,uq J.f12,uq J.f13,uq J.f14,uq J.f15,uq J.f16,u2 J.f17,ub J.f18,uf hAs,uq J.nA,fun _=>B4,J.bel,uf hAp⟩⟩)
   ·have hAp:L 19=false:=(Pl hcl 19 [18,17,7,6,5] hLi);have hAs:L 20=false:=(Pl hcl 20 [19,18,17,7,6,5] hLi);have B4:=J.b4 hAp;go_simp;exact hK _ _ (e21 ⟨rfl,⟨uq J.f0,uq J.f1,uq J.f2,uq J.f3,fun _=>rfl,uq J.f5,uq J.f6,uq J.f7,uq J.f8,uq J.f9,uq J.f10,uq J.f11,uq J.f12,uq J.f13,uq J.f14,uq J.f15,uq J.f16,u2 J.f17,ub J.f18,uf hAs,uq J.nA,fun _=>B4,J.bel,uf hAp⟩⟩)
   ·have hAp:L 19=false:=(Pl hcl 19 [18,17,7,6] hLi);have hAs:L 20=false:=(Pl hcl 20 [19,18,17,7,6] hLi);have B4:=J.b4 hAp;obtain rfl:=J.f3 (Fa haft 3);obtain rfl:=J.f4 (Fa haft 4);go_simp;exact hK _ _ (e21 ⟨rfl,⟨uq J.f0,uq J.f1,uq J.f2,uq J.f3,uq J.f4,fun _=>rfl,uq J.f6,uq J.f7,uq J.f8,uq J.f9,uq J.f10,uq J.f11,uq J.f12,uq J.f13,uq J.f14,uq J.f15,uq J.f16,u2 J.f17,ub J.f18,uf hAs,uq J.nA,fun _=>B4,J.bel,uf hAp⟩⟩)
   ·have hAp:L 19=false:=(Pl hcl 19 [18,17,7] hLi);have hAs:L 20=false:=(Pl hcl 20 [19,18,17,7] hLi);have B4:=J.b4 hAp;have q0:=(B4.cell (p:=⟨b,off+k * 5,none⟩) hbl).trans x0;have q1:=(B4.cell (p:=⟨b,off+k * 5+1,none⟩) hbl).trans x1;have q2:=(B4.cell (p:=⟨b,off+k * 5+2,none⟩) hbl).trans x2;have q3:=(B4.cell (p:=⟨b,off+k * 5+3,none⟩) hbl).trans x3;have q4:=(B4.cell (p:=⟨b,off+k * 5+4,none⟩) hbl).trans x4;obtain rfl:=J.f5 (Fa haft 5);go_simp;exact hK _ _ (e21 ⟨rfl,⟨uq J.f0,uq J.f1,uq J.f2,uq J.f3,uq J.f4,uq J.f5,fun _=>rfl,uq J.f7,uq J.f8,uq J.f9,uq J.f10,uq J.f11,uq J.f12,uq J.f13,uq J.f14,uq J.f15,uq J.f16,u2 J.f17,ub J.f18,uf hAs,uq J.nA,fun _=>B4,J.bel,uf hAp⟩⟩)
   ·have hAp:L 19=false:=(Pl hcl 19 [18,17] hLi);have hAs:L 20=false:=(Pl hcl 20 [19,18,17] hLi);have B4:=J.b4 hAp;obtain rfl:=J.f1 (Fa haft 1);obtain rfl:=J.f6 (Fa haft 6);go_simp;go_wp2_with (go_at_call 86;refine (KT.out W B4).mono ?_;rintro e WN ⟨rfl,_,hb⟩)
    exact e21 ⟨rfl,⟨uq J.f0,uq J.f1,uq J.f2,uq J.f3,uq J.f4,uq J.f5,uq J.f6,fun _=>rfl,uq J.f8,uq J.f9,uq J.f10,uq J.f11,uq J.f12,uq J.f13,uq J.f14,uq J.f15,uq J.f16,fun h h2=>(J.f17 (un h) (by rwa [zc rfl] at h2)).below hb (Nat.le_refl _),fun h=>by obtain ⟨g,e,c⟩:=J.f18 (un h);exact ⟨g,e,fun h2=>(hb.cell (World.block_lt_of_cell? _ _ (c (by rwa [zc rfl] at h2)))).trans (c (by rwa [zc rfl] at h2))⟩,uf hAs,uq J.nA,fun _=>zi B4 hb,zi J.bel hb,uf hAp⟩⟩
   ·have hAp:L 19=false:=(Pl hcl 19 [18,17,16] hLi);have hAs:L 20=false:=(Pl hcl 20 [19,18,17,16] hLi);have B4:=J.b4 hAp;go_simp;exact hK _ _ (e21 ⟨rfl,⟨uq J.f0,uq J.f1,uq J.f2,uq J.f3,uq J.f4,uq J.f5,uq J.f6,uq J.f7,fun _=>rfl,uq J.f9,uq J.f10,uq J.f11,uq J.f12,uq J.f13,uq J.f14,uq J.f15,uq J.f16,u2 J.f17,ub J.f18,uf hAs,uq J.nA,fun _=>B4,J.bel,uf hAp⟩⟩)
   ·have hAp:L 19=false:=(Pl hcl 19 [18,17,16,10] hLi);have hAs:L 20=false:=(Pl hcl 20 [19,18,17,16,10] hLi);have B4:=J.b4 hAp;go_simp;exact hK _ _ (e21 ⟨rfl,⟨uq J.f0,uq J.f1,uq J.f2,uq J.f3,uq J.f4,uq J.f5,uq J.f6,uq J.f7,uq J.f8,fun _=>rfl,uq J.f10,uq J.f11,uq J.f12,uq J.f13,uq J.f14,uq J.f15,uq J.f16,u2 J.f17,ub J.f18,uf hAs,uq J.nA,fun _=>B4,J.bel,uf hAp⟩⟩)
   ·have hAp:L 19=false:=(Pl hcl 19 [18,17,16] hLi);have hAs:L 20=false:=(Pl hcl 20 [19,18,17,16] hLi);have B4:=J.b4 hAp;obtain ⟨q0,q1,q2,q3,q4⟩:=zK ((B4.block _ hlt0).trans HX.out);have hl:=Nat.lt_of_lt_of_le hlt0 B4.size;obtain rfl:=J.f9 (Fa haft 9);go_simp;exact hK _ _ (e21 ⟨rfl,⟨uq J.f0,uq J.f1,uq J.f2,uq J.f3,uq J.f4,uq J.f5,uq J.f6,uq J.f7,uq J.f8,uq J.f9,fun _=>rfl,uq J.f11,uq J.f12,uq J.f13,uq J.f14,uq J.f15,uq J.f16,u2 J.f17,ub J.f18,uf hAs,uq J.nA,fun _=>B4,J.bel,uf hAp⟩⟩)
   ·have hAp:L 19=false:=(Pl hcl 19 [18,17,16,15,14,12] hLi);have hAs:L 20=false:=(Pl hcl 20 [19,18,17,16,15,14,12] hLi);have B4:=J.b4 hAp;go_simp;exact hK _ _ (e21 ⟨rfl,⟨uq J.f0,uq J.f1,uq J.f2,uq J.f3,uq J.f4,uq J.f5,uq J.f6,uq J.f7,uq J.f8,uq J.f9,uq J.f10,fun _=>rfl,uq J.f12,uq J.f13,uq J.f14,uq J.f15,uq J.f16,u2 J.f17,ub J.f18,uf hAs,uq J.nA,fun _=>B4,J.bel,uf hAp⟩⟩)
   ·have hAp:L 19=false:=(Pl hcl 19 [18,17,16,15,14] hLi);have hAs:L 20=false:=(Pl hcl 20 [19,18,17,16,15,14] hLi);have B4:=J.b4 hAp;obtain ⟨q0,q1,q2⟩:=z25 ((B4.block _ hlg).trans HY.out);have hl:=Nat.lt_of_lt_of_le hlg B4.size;obtain rfl:=J.f11 (Fa haft 11);go_simp;exact hK _ _ (e21 ⟨rfl,⟨uq J.f0,uq J.f1,uq J.f2,uq J.f3,uq J.f4,uq J.f5,uq J.f6,uq J.f7,uq J.f8,uq J.f9,uq J.f10,uq J.f11,fun _=>rfl,uq J.f13,uq J.f14,uq J.f15,uq J.f16,u2 J.f17,ub J.f18,uf hAs,uq J.nA,fun _=>B4,J.bel,uf hAp⟩⟩)
   ·have hAp:L 19=false:=(Pl hcl 19 [18,17,16,15,14] hLi);have hAs:L 20=false:=(Pl hcl 20 [19,18,17,16,15,14] hLi);have B4:=J.b4 hAp;go_simp;exact hK _ _ (e21 ⟨rfl,⟨uq J.f0,uq J.f1,uq J.f2,uq J.f3,uq J.f4,uq J.f5,uq J.f6,uq J.f7,uq J.f8,uq J.f9,uq J.f10,uq J.f11,uq J.f12,fun _=>rfl,uq J.f14,uq J.f15,uq J.f16,u2 J.f17,ub J.f18,uf hAs,uq J.nA,fun _=>B4,J.bel,uf hAp⟩⟩)
   ·have hAp:L 19=false:=(Pl hcl 19 [18,17,16,15] hLi);have hAs:L 20=false:=(Pl hcl 20 [19,18,17,16,15] hLi);have B4:=J.b4 hAp;obtain rfl:=J.f12 (Fa haft 12);obtain rfl:=J.f13 (Fa haft 13);go_simp;exact hK _ _ (e21 ⟨rfl,⟨uq J.f0,uq J.f1,uq J.f2,uq J.f3,uq J.f4,uq J.f5,uq J.f6,uq J.f7,uq J.f8,uq J.f9,uq J.f10,uq J.f11,uq J.f12,uq J.f13,fun _=>rfl,uq J.f15,uq J.f16,u2 J.f17,ub J.f18,uf hAs,uq J.nA,fun _=>B4,J.bel,uf hAp⟩⟩)
   ·have hAp:L 19=false:=(Pl hcl 19 [18,17,16] hLi);have hAs:L 20=false:=(Pl hcl 20 [19,18,17,16] hLi);have B4:=J.b4 hAp;have q0:=(B4.cell (p:=⟨b,off+k * 5,none⟩) hbl).trans x0;have q1:=(B4.cell (p:=⟨b,off+k * 5+1,none⟩) hbl).trans x1;have q2:=(B4.cell (p:=⟨b,off+k * 5+2,none⟩) hbl).trans x2;have q3:=(B4.cell (p:=⟨b,off+k * 5+3,none⟩) hbl).trans x3;have q4:=(B4.cell (p:=⟨b,off+k * 5+4,none⟩) hbl).trans x4;obtain rfl:=J.f14 (Fa haft 14);go_simp;exact hK _ _ (e21 ⟨rfl,⟨uq J.f0,uq J.f1,uq J.f2,uq J.f3,uq J.f4,uq J.f5,uq J.f6,uq J.f7,uq J.f8,uq J.f9,uq J.f10,uq J.f11,uq J.f12,uq J.f13,uq J.f14,fun _=>rfl,uq J.f16,u2 J.f17,ub J.f18,uf hAs,uq J.nA,fun _=>B4,J.bel,uf hAp⟩⟩)
   ·have hAp:L 19=false:=(Pl hcl 19 [18,17] hLi);have hAs:L 20=false:=(Pl hcl 20 [19,18,17] hLi);have B4:=J.b4 hAp;obtain rfl:=J.f8 (Fa haft 8);obtain rfl:=J.f10 (Fa haft 10);obtain rfl:=J.f15 (Fa haft 15);go_simp;go_wp2_with (go_at_call 87;refine (KW.out W B4).mono ?_;rintro e WN ⟨rfl,hb⟩)
    exact e21 ⟨rfl,⟨uq J.f0,uq J.f1,uq J.f2,uq J.f3,uq J.f4,uq J.f5,uq J.f6,uq J.f7,uq J.f8,uq J.f9,uq J.f10,uq J.f11,uq J.f12,uq J.f13,uq J.f14,uq J.f15,fun _=>rfl,fun h h2=>(J.f17 (un h) (by rwa [zc rfl] at h2)).below hb (Nat.le_refl _),fun h=>by obtain ⟨g,e,c⟩:=J.f18 (un h);exact ⟨g,e,fun h2=>(hb.cell (World.block_lt_of_cell? _ _ (c (by rwa [zc rfl] at h2)))).trans (c (by rwa [zc rfl] at h2))⟩,uf hAs,uq J.nA,fun _=>zi B4 hb,zi J.bel hb,uf hAp⟩⟩
   ·have hAp:L 19=false:=(Pl hcl 19 [18] hLi);have hAs:L 20=false:=(Pl hcl 20 [19,18] hLi);have B4:=J.b4 hAp;obtain rfl:=J.f7 (Fa haft 7);obtain rfl:=J.f16 (Fa haft 16);go_simp;go_wp2_with (go_at_call 85;refine (KL.out W).mono ?_;rintro e WN ⟨vt,rfl,hR,hb⟩;have hR2:=hR.base (B':=W2.heap.size) (HBs.out J.bel.size);clear hR)
    exact e21 ⟨rfl,⟨uq J.f0,uq J.f1,uq J.f2,uq J.f3,uq J.f4,uq J.f5,uq J.f6,uq J.f7,uq J.f8,uq J.f9,uq J.f10,uq J.f11,uq J.f12,uq J.f13,uq J.f14,uq J.f15,uq J.f16,fun _ _=>hR2,(fun h=>by rw [zc rfl,(Qh hcl 18 17 hLi)] at h;cases h),uf hAs,uq J.nA,fun _=>zi B4 hb,zi J.bel hb,uf hAp⟩⟩
   ·have hAp:L 19=false:=(Qh hcl 19 18 hLi);have hAs:L 20=false:=(Pl hcl 20 [19] hLi);have B4:=J.b4 hAp;obtain ⟨a9,c9,rfl⟩:=(J.f17 (Fa haft 17) hAp).form;go_simp;exact hK _ _ (e21 ⟨rfl,⟨uq J.f0,uq J.f1,uq J.f2,uq J.f3,uq J.f4,uq J.f5,uq J.f6,uq J.f7,uq J.f8,uq J.f9,uq J.f10,uq J.f11,uq J.f12,uq J.f13,uq J.f14,uq J.f15,uq J.f16,fun h h2=>(J.f17 (un h) (by rwa [zc rfl] at h2)).below (ze (Below.refl _ _) _) (Nat.le_refl _),fun _=>⟨_,rfl,fun _=>by simp⟩,uf hAs,uq J.nA,fun _=>ze B4 _,ze J.bel _,uf hAp⟩⟩)
   ·have hAp:L 19=false:=hLi;have hAs:L 20=false:=(Qh hcl 20 19 hLi);have B4:=J.b4 hAp;obtain rfl:=J.f0 (Fa haft 0);obtain ⟨g,rfl,hg⟩:=J.f18 (Fa haft 18);have hO4:=z4w HO.out B4;have hT4:=J.f17 (by cases hz:L 17 with | true=>rfl | false=>have:=hcl 18 17 (by kernel_rfl) hz;rw [(Fa haft 18)] at this;cases this) hAp;rw [if_pos (by rfl)];refine wp_append_own _ (.tmp 17) (.tmp 35) 83 rfl W2.heap.size 93 i0 (.slice none 0 0) 1 24 Tryz.underlying83 hi0 hz0 hz1 hz2 rfl (by decide) _ _ _ rfl hO4 ⟨g,0,none⟩ 1 1 [v34] rfl rfl ?c1 ?c2 ?c3 ?c4 ?c5 ?_
    case c1 =>
     intro i u hi
     match i,hi with
     | 0,hi=>simp at hi;subst hi;simpa [Addr.add] using hg hAp
    case c2=>intro u hu;simp at hu;subst hu;obtain ⟨a9,c9,rfl⟩:=hT4.form;rfl
    case c3=>unfold maxLen;omega
    case c4=>omega
    case c5=>exact HBs.out (J.bel.size)
    intro v' w5 hown' hgrow' _;have hB5:Below W2.heap.size W2 w5:=J.bel.grown hgrow' J.bel.size (fun q hq=>HBs2.out (hO4.lt q hq).1);have hR5:=((HRs.out.kept B4).grown hO4 hgrow').next (hT4.grown hO4 hgrow');exact hK _ _ (e21 ⟨rfl,⟨uq J.f0,uq J.f1,uq J.f2,uq J.f3,uq J.f4,uq J.f5,uq J.f6,uq J.f7,uq J.f8,uq J.f9,uq J.f10,uq J.f11,uq J.f12,uq J.f13,uq J.f14,uq J.f15,uq J.f16,(fun _ h2=>by rw [zI] at h2;cases h2),(fun _=>⟨g,rfl,fun h2=>by rw [zI] at h2;cases h2⟩),uf hAs,uq J.nA,(fun h=>by rw [zI] at h;cases h),hB5,fun _=>⟨by rw [List.length_append];exact hown',hR5⟩⟩⟩)
   ·go_simp;exact hK _ _ (e21 ⟨rfl,⟨uq J.f0,uq J.f1,uq J.f2,uq J.f3,uq J.f4,uq J.f5,uq J.f6,uq J.f7,uq J.f8,uq J.f9,uq J.f10,uq J.f11,uq J.f12,uq J.f13,uq J.f14,uq J.f15,uq J.f16,u2 J.f17,ub J.f18,fun _=>rfl,(fun h=>by rw [zI] at h;cases h),uq J.b4,J.bel,uq J.ownA⟩⟩)
theorem z65 {l:List Int} {k:Nat} (h:k < l.length):l.take (k+1)=l.take k ++ [l.getD k 0]:=by
 rw [List.take_succ_eq_append_getElem h,show l.getD k 0=l[k] by simp [List.getD,h]]
structure AdJ (w:World) (va vb U:Value) (xs:List Int) (k x y:Int) (p1 p2:Addr) (L:Nat->Bool) (W:World) (v5 v14 v15 v16 v17 v18 v19 v20 v21 v22 v23 v24 v25:Value):Prop where
 f0:L 0=true->v14=U
 f1:L 1=true->v15=va
 f2:L 2=true->v16=int i64 k
 f3:L 3=true->v17=.pointer (some p1)
 f4:L 4=true->v18=int i64 x
 f5:L 5=true->v19=vb
 f6:L 6=true->v20=int i64 k
 f7:L 7=true->v21=.pointer (some p2)
 f8:L 8=true->v22=int i64 y
 f9:L 9=true->v23=int i64 (x+y)
 f10:L 10=true->∃ g,v24=.slice (some ⟨g,0,none⟩) 1 1/\(L 11=false->W.cell? ⟨g,0,none⟩=some (int i64 (x+y)))
 f12:L 12=true->v5=v25
 n12:L 12=false->v5=U
 bel:Below w.heap.size w W
 own:L 11=false->W.ownsRow w.heap.size 3 1 U xs.length (xs.map (Value.int .i64))
 ownA:L 11=true->W.ownsRow w.heap.size 3 1 v25 (xs ++ [x+y]).length ((xs ++ [x+y]).map (Value.int .i64))
theorem z6L (va vb:Value) (a b:List Int) (hl:b.length=a.length) (h88:a.length<=88) (ha:a.all wtB=true) (hb:b.all wtB=true) (w:World) (h1:zC w va a) (h2:zC w vb b) :
  Calls Tryz.prog 93 #[va,vb] w fun e w'=>∃ v,e=.returned v/\zt w' w.heap.size w'.heap.size v (z1o a b)/\Below w.heap.size w w':=by
 have hmx:Tryz.prog.follows .mixedOrders=true:=(by kernel_rfl);obtain ⟨i0,hi,hz0,hz1,hz2⟩:=info_parts z75;obtain ⟨aa,ca,rfl,_⟩:=h1.form;obtain ⟨ab,cb,rfl,_⟩:=h2.form;rw [hl] at h2 |-;have H1:=Hd h1;have H2:=Hd h2;have HL:=Hd hl;have HLn:=Hd (z5u hl);have HA:=Hd (fun i (hi:i < a.length)=>z33 ha hi);have HB:=Hd (fun i (hi:i < a.length)=>z33 hb (i:=i) (by omega));have HG:=Hd (fun i (hi:i < a.length)=>z4C hl hi);have HR0:=Hd (z4T w w.heap.size (Nat.le_refl _));have HK0:=Hd (ze (Below.refl w.heap.size w) (.cells #[] 3));clear h1 h2 ha hb hl;go_enter Tryz.func93,Tryz.ntmps93;go_wp2_with fail
 go_loopw [5,6] (fun o i W=>∃ k:Nat,i=int i64 k/\k<=a.length/\Hid (W.ownsRow w.heap.size 3 1 o ((z1o a b).take k).length (((z1o a b).take k).map (Value.int .i64)))/\Hid (Below w.heap.size w W)) (fun _ i _=>a.length - (intOf i).toNat)
 case atStart=>exact ⟨0,rfl,Nat.zero_le _,by rw [List.take_zero];exact HR0.out.owns,HK0⟩
 case round =>
  clear HR0 HK0;obtain ⟨k,rfl,hk,HO,HBl⟩:=hrel;by_cases hlt:k < a.length
  case neg =>
   obtain rfl:k=a.length:=by omega
   have HR:=Hd (zt.of_owns HO.out);rw [<-HLn.out,List.take_length] at HR;go_wp2;go_ret;exact ⟨_,rfl,HR.out,HBl.out⟩
  obtain ⟨b1,o1,c1,e1,hc11,hc12,hb1,hx1⟩:=H1.out.get hlt;simp only [Value.slice.injEq,true_and] at e1;obtain ⟨rfl,rfl⟩:=e1;obtain ⟨b2,o2,c2,e2,hc21,hc22,hb2,hx2⟩:=H2.out.get (i:=k) (by rw [HL.out];exact hlt);rw [HL.out] at e2 hc21;simp only [Value.slice.injEq,true_and] at e2;obtain ⟨rfl,rfl⟩:=e2;have hxa:=HA.out k hlt;have hxb:=HB.out k hlt;have hol:((z1o a b).take k).length<=k:=(by rw [List.length_take];omega);have HT:Hid ((z1o a b).take (k+1)=(z1o a b).take k ++ [a.getD k 0+b.getD k 0]):=(by rw [Hid,z65 (by rw [HLn.out];exact hlt),HG.out k hlt]);generalize (z1o a b).take k=xs at HO HT hol;generalize a.getD k 0=x at hx1 hxa HT;generalize b.getD k 0=y at hx2 hxb HT;unfold maxLen at hc12 hc22;go_upto_region 5 with fail
  refine z0n (fun L act W=>∃ v5 v14 v15 v16 v17 v18 v19 v20 v21 v22 v23 v24 v25:Value,act=⟨#[.slice (some ⟨b1,o1,none⟩) a.length ca,.slice (some ⟨b2,o2,none⟩) a.length cb,undef,undef,.slice none 0 0,v5,int i64 (k:Int),.slice (some ⟨w.heap.size,0,none⟩) 0 0,int i64 (k:Int),.slice (some ⟨b1,o1,none⟩) a.length ca,int i64 (a.length:Int),.bool true,u12,u13,v14,v15,v16,v17,v18,v19,v20,v21,v22,v23,v24,v25,undef],[]⟩/\AdJ w (.slice (some ⟨b1,o1,none⟩) a.length ca) (.slice (some ⟨b2,o2,none⟩) a.length cb) u5 xs (k:Int) x y ⟨b1,o1+k,none⟩ ⟨b2,o2+k,none⟩ L W v5 v14 v15 v16 v17 v18 v19 v20 v21 v22 v23 v24 v25) hmx (by kernel_rfl) ?hs ?hd ?h0
  case h0=>exact e13 ⟨rfl,⟨n0,n0,n0,n0,n0,n0,n0,n0,n0,n0,n0,n0,fun _=>rfl,z0X HBl.out,fun _=>(zt.of_owns HO.out |>.kept (w':=wr.drew) (fun _ _ _ _=>rfl)).owns,n0⟩⟩
  case hd =>
   intro L act W hJ hall;obtain ⟨v5,v14,v15,v16,v17,v18,v19,v20,v21,v22,v23,v24,v25,ha,J⟩:=hJ;subst ha;obtain rfl:=J.f12 (hall 12 (by decide));have HO5:=Hd (J.ownA (hall 11 (by decide)));have HB5:=Hd J.bel;obtain ⟨g',cap'',rfl⟩:=Joins.ownsRow_form HO5.out (by simp);clear J hall;go_wp2;go_roundw
   case rel=>exact ⟨k+1,by go_num,by omega,by rw [HT.out];exact HO5,HB5⟩
   case measure=>simp [intOf];omega
  case hs =>
   intro L act W i o hJ hcl ho hLi haft K hK;obtain ⟨v5,v14,v15,v16,v17,v18,v19,v20,v21,v22,v23,v24,v25,ha,J⟩:=hJ;skip;subst ha
   have hi':i < 13:=by
    have:=(bL ho)
    simpa using this
   rcases (by omega:i=0\/i=1\/i=2\/i=3\/i=4\/i=5\/i=6\/i=7\/i=8\/i=9\/i=10\/i=11\/i=12) with rfl | rfl | rfl | rfl | rfl | rfl | rfl | rfl | rfl | rfl | rfl | rfl | rfl
   all_goals
    simp only [List.getElem?_toArray,List.getElem?_cons_zero,List.getElem?_cons_succ,Option.some.injEq] at ho;subst ho;clear hi'
   ·have hL12:L 12=false:=hcl 12 0 (by kernel_rfl) hLi;obtain rfl:=J.n12 hL12;go_simp;exact hK _ _ (e13 ⟨rfl,⟨fun _=>rfl,uq J.f1,uq J.f2,uq J.f3,uq J.f4,uq J.f5,uq J.f6,uq J.f7,uq J.f8,uq J.f9,ub J.f10,uq J.f12,uq J.n12,J.bel,uq J.own,uq J.ownA⟩⟩)
   ·go_simp;exact hK _ _ (e13 ⟨rfl,⟨uq J.f0,fun _=>rfl,uq J.f2,uq J.f3,uq J.f4,uq J.f5,uq J.f6,uq J.f7,uq J.f8,uq J.f9,ub J.f10,uq J.f12,uq J.n12,J.bel,uq J.own,uq J.ownA⟩⟩)
   ·go_simp;exact hK _ _ (e13 ⟨rfl,⟨uq J.f0,uq J.f1,fun _=>rfl,uq J.f3,uq J.f4,uq J.f5,uq J.f6,uq J.f7,uq J.f8,uq J.f9,ub J.f10,uq J.f12,uq J.n12,J.bel,uq J.own,uq J.ownA⟩⟩)
   ·obtain rfl:=J.f1 (Fa haft 1);obtain rfl:=J.f2 (Fa haft 2);go_simp;exact hK _ _ (e13 ⟨rfl,⟨uq J.f0,uq J.f1,uq J.f2,fun _=>rfl,uq J.f4,uq J.f5,uq J.f6,uq J.f7,uq J.f8,uq J.f9,ub J.f10,uq J.f12,uq J.n12,J.bel,uq J.own,uq J.ownA⟩⟩)
   ·obtain rfl:=J.f3 (Fa haft 3);have q1:=(J.bel.cell (p:=⟨b1,o1+k,none⟩) hb1).trans hx1;go_simp;exact hK _ _ (e13 ⟨rfl,⟨uq J.f0,uq J.f1,uq J.f2,uq J.f3,fun _=>rfl,uq J.f5,uq J.f6,uq J.f7,uq J.f8,uq J.f9,ub J.f10,uq J.f12,uq J.n12,J.bel,uq J.own,uq J.ownA⟩⟩)
   ·go_simp;exact hK _ _ (e13 ⟨rfl,⟨uq J.f0,uq J.f1,uq J.f2,uq J.f3,uq J.f4,fun _=>rfl,uq J.f6,uq J.f7,uq J.f8,uq J.f9,ub J.f10,uq J.f12,uq J.n12,J.bel,uq J.own,uq J.ownA⟩⟩)
   ·go_simp;exact hK _ _ (e13 ⟨rfl,⟨uq J.f0,uq J.f1,uq J.f2,uq J.f3,uq J.f4,uq J.f5,fun _=>rfl,uq J.f7,uq J.f8,uq J.f9,ub J.f10,uq J.f12,uq J.n12,J.bel,uq J.own,uq J.ownA⟩⟩)
   ·obtain rfl:=J.f5 (Fa haft 5);obtain rfl:=J.f6 (Fa haft 6);go_simp;exact hK _ _ (e13 ⟨rfl,⟨uq J.f0,uq J.f1,uq J.f2,uq J.f3,uq J.f4,uq J.f5,uq J.f6,fun _=>rfl,uq J.f8,uq J.f9,ub J.f10,uq J.f12,uq J.n12,J.bel,uq J.own,uq J.ownA⟩⟩)
   ·obtain rfl:=J.f7 (Fa haft 7);have q1:=(J.bel.cell (p:=⟨b2,o2+k,none⟩) hb2).trans hx2;go_simp;exact hK _ _ (e13 ⟨rfl,⟨uq J.f0,uq J.f1,uq J.f2,uq J.f3,uq J.f4,uq J.f5,uq J.f6,uq J.f7,fun _=>rfl,uq J.f9,ub J.f10,uq J.f12,uq J.n12,J.bel,uq J.own,uq J.ownA⟩⟩)
   ·obtain rfl:=J.f4 (Fa haft 4);obtain rfl:=J.f8 (Fa haft 8);go_simp;exact hK _ _ (e13 ⟨rfl,⟨uq J.f0,uq J.f1,uq J.f2,uq J.f3,uq J.f4,uq J.f5,uq J.f6,uq J.f7,uq J.f8,fun _=>by rw [z50 (by omega)],ub J.f10,uq J.f12,uq J.n12,J.bel,uq J.own,uq J.ownA⟩⟩)
   ·obtain rfl:=J.f9 (Fa haft 9);go_simp;exact hK _ _ (e13 ⟨rfl,⟨uq J.f0,uq J.f1,uq J.f2,uq J.f3,uq J.f4,uq J.f5,uq J.f6,uq J.f7,uq J.f8,uq J.f9,fun _=>⟨_,rfl,fun _=>by simp⟩,uq J.f12,uq J.n12,(ze J.bel _),fun h=>(J.own (un h)).alloc _,fun h=>(J.ownA (un h)).alloc _⟩⟩)
   ·obtain rfl:=J.f0 (Fa haft 0);obtain ⟨g,rfl,hg⟩:=J.f10 (Fa haft 10);have hL12:L 12=false:=hcl 12 11 (by kernel_rfl) hLi;have hO4:=J.own hLi;rw [if_pos (by rfl)];refine wp_append_own _ (.tmp 14) (.tmp 24) 27 rfl w.heap.size 3 i0 (int i64 0) 1 8 Tryz.underlying27 hi hz0 hz1 hz2 rfl (by decide) _ _ _ rfl hO4 ⟨g,0,none⟩ 1 1 [int i64 (x+y)] rfl rfl ?c1 ?c2 ?c3 ?c4 ?c5 ?_
    case c1 =>
     intro i u hi
     match i,hi with
     | 0,hi=>simp at hi;subst hi;simpa [Addr.add] using hg hLi
    case c2=>intro u hu;simp at hu;subst hu;rfl
    case c3=>unfold maxLen;omega
    case c4=>omega
    case c5=>exact J.bel.size
    intro v' w5 hown' hgrow' _;have hB5:Below w.heap.size w w5:=J.bel.grown hgrow' J.bel.size (fun q hq=>(hO4.lt q hq).1);exact hK _ _ (e13 ⟨rfl,⟨uq J.f0,uq J.f1,uq J.f2,uq J.f3,uq J.f4,uq J.f5,uq J.f6,uq J.f7,uq J.f8,uq J.f9,(fun h=>⟨_,rfl,fun h2=>by rw [zI] at h2;cases h2⟩),uf hL12,uq J.n12,(hB5),(fun h=>by rw [zI] at h;cases h),fun _=>by rw [List.length_append,List.map_append];exact hown'⟩⟩)
   ·go_simp;exact hK _ _ (e13 ⟨rfl,⟨uq J.f0,uq J.f1,uq J.f2,uq J.f3,uq J.f4,uq J.f5,uq J.f6,uq J.f7,uq J.f8,uq J.f9,ub J.f10,fun _=>rfl,(fun h=>by rw [zI] at h;cases h),J.bel,uq J.own,uq J.ownA⟩⟩)
theorem zdF (ac ar:Option Addr) (cc cr:Nat) (t:T) (q:Int) (C:Nat) (hC:C<=88) (w:World) {z:Nat} (hc:z08 w z (.slice ac t.cols.length cc) t.cols) :
  Calls Tryz.prog 94 #[.agg #[.slice ac t.cols.length cc,int i64 t.head,int i64 t.foot,.slice ar t.rows.length cr,int i64 t.gap],int i64 q,int i64 (C:Int)] w fun e w'=>∃ v,e=.returned v/\zt w' w.heap.size w'.heap.size v (z0G (zq t q) C)/\Below w.heap.size w w':=by
 obtain ⟨i0,hi,hz0,hz1,hz2⟩:=info_parts z75;have hf0:=zdj;have HC:=Hd hc;have HLn:=Hd (z14 (zq t q) C);have K1:=ze (Below.refl w.heap.size w) (.cells #[.slice ac t.cols.length cc,int i64 t.head,int i64 t.foot,.slice ar t.rows.length cr,int i64 t.gap] 26);have X1:=zm w (.cells #[.slice ac t.cols.length cc,int i64 t.head,int i64 t.foot,.slice ar t.rows.length cr,int i64 t.gap] 26);have hs1:(w.alloc (.cells #[.slice ac t.cols.length cc,int i64 t.head,int i64 t.foot,.slice ar t.rows.length cr,int i64 t.gap] 26)).heap.size=w.heap.size+1:=(by simp);have HR0:=Hd (z4T (w.alloc (.cells #[.slice ac t.cols.length cc,int i64 t.head,int i64 t.foot,.slice ar t.rows.length cr,int i64 t.gap] 26)) (w.heap.size+1) (by omega));have HK0:=Hd (ze K1 (.cells #[] 3));have HX0:=Hd ((Below.heap_alloc (w.alloc (.cells #[.slice ac t.cols.length cc,int i64 t.head,int i64 t.foot,.slice ar t.rows.length cr,int i64 t.gap] 26)) (.cells #[] 3) w.heap.size (by omega)).trans X1);rw [hs1] at HR0;clear hc K1 X1;go_enter Tryz.func94,Tryz.ntmps94;go_wp2_with fail
 go_loopw [7,8] (fun o i W=>∃ k:Nat,i=int i64 k/\k<=C/\Hid (W.ownsRow (w.heap.size+1) 3 1 o ((z0G (zq t q) C).take k).length (((z0G (zq t q) C).take k).map (Value.int .i64)))/\Hid (Below w.heap.size w W)/\Hid (W.heap[w.heap.size]?=some (.cells #[.slice ac t.cols.length cc,int i64 t.head,int i64 t.foot,.slice ar t.rows.length cr,int i64 t.gap] 26))) (fun _ i _=>C - (intOf i).toNat)
 case atStart=>exact ⟨0,rfl,Nat.zero_le _,by rw [List.take_zero];exact HR0.out.owns,HK0,HX0⟩
 case round =>
  clear HR0 HK0 HX0;obtain ⟨k,rfl,hk,HO,HB,HX⟩:=hrel;by_cases hlt:k < C
  case neg =>
   obtain rfl:k=C:=by omega
   have HR:=Hd (zt.of_owns HO.out);rw [show (z0G (zq t q) k).take k=z0G (zq t q) k by rw [List.take_of_length_le (by rw [HLn.out];exact Nat.le_refl _)]] at HR;go_wp2;go_ret;exact ⟨_,rfl,HR.out.base (by omega) (Nat.le_refl _),HB.out⟩
  have hwz:w.heap.size < wr.heap.size:=(bL HX.out);have b0:wr.cell? ⟨w.heap.size,0,none⟩=some (.slice ac t.cols.length cc):=zf HX.out;have b1:wr.cell? ⟨w.heap.size,1,none⟩=some (int i64 t.head):=zf HX.out;have b2:wr.cell? ⟨w.heap.size,2,none⟩=some (int i64 t.foot):=zf HX.out;have b3:wr.cell? ⟨w.heap.size,3,none⟩=some (.slice ar t.rows.length cr):=zf HX.out;have b4:wr.cell? ⟨w.heap.size,4,none⟩=some (int i64 t.gap):=zf HX.out;have KS:=Hd (z57 ac ar cc cr t (k:Int) (by omega) wr (HC.out.kept HB.out));have hkq:=z8P t q k;have hol:((z0G (zq t q) C).take k).length<=k:=(by rw [List.length_take];omega);have HT:Hid ((z0G (zq t q) C).take (k+1)=(z0G (zq t q) C).take k ++ [if zq t q k=true then (1:Int) else 0]):=(by rw [Hid,z65 (by rw [HLn.out];exact hlt),z5t hlt]);generalize sd t.cols k=p at KS hkq;generalize (z0G (zq t q) C).take k=xs at HO HT hol
  cases hp:zq t q k with
  | false =>
   rw [hp] at hkq HT;simp only [Bool.false_eq_true,if_false] at HT;clear hp;go_wp2_with fail
   refine KS.out.mono ?_;rintro e w1 ⟨rfl,hb1⟩;have HB1:=Hd (zi HB.out hb1);have HX1:=Hd ((hb1.block w.heap.size hwz).trans HX.out);have hO4:=(zt.of_owns HO.out |>.kept (fun j h0 _ _=>hb1.block j h0)).owns;have hsz:w.heap.size+1<=w1.heap.size:=(by have:=hb1.size;omega);clear hb1 b0 b1 b2 b3 b4 HO HB HX;go_wp2_with (at_builtin;refine wpList_append_own _ rfl _ _ 27 rfl (w.heap.size+1) 3 i0 (int i64 0) 1 8 Tryz.underlying27 hi hz0 hz1 hz2 rfl (by decide) _ _ _ rfl (hO4.alloc _) ⟨w1.heap.size,0,none⟩ 1 1 [int i64 0] rfl rfl ?c1 ?c2 ?c3 ?c4 ?c5 ?_)
   case c1 =>
    intro i u hi
    match i,hi with
    | 0,hi=>simp at hi;subst hi;simp [Addr.add]
   case c2=>intro u hu;simp at hu;subst hu;rfl
   case c3=>unfold maxLen;omega
   case c4=>omega
   case c5=>simp;omega
   intro v' w5 hown' hgrow' _;obtain ⟨hB5,hX5⟩:=z3m (Nat.le_succ _) hO4 HB1.out hgrow';have HB5:=Hd hB5;have HX5:=Hd ((hX5 w.heap.size (Nat.lt_succ_self _) (by omega)).trans HX1.out);have HO5:Hid (w5.ownsRow (w.heap.size+1) 3 1 v' (xs ++ [0]).length ((xs ++ [0]).map (Value.int .i64))):=(by rw [List.length_append,List.map_append];exact hown');obtain ⟨g',cap'',rfl⟩:=Joins.ownsRow_form hown' (by omega);clear hown' hgrow' hO4 hB5 hX5 HB1 HX1;go_wp2;go_roundw
   case rel=>exact ⟨k+1,by go_num,by omega,by rw [HT.out];exact HO5,HB5,HX5⟩
   case measure=>simp [intOf];omega
  | true =>
   rw [hp] at hkq HT;simp only [if_true] at HT;clear hp;go_wp2_with fail
   refine KS.out.mono ?_;rintro e w1 ⟨rfl,hb1⟩;have HB1:=Hd (zi HB.out hb1);have HX1:=Hd ((hb1.block w.heap.size hwz).trans HX.out);have hO4:=(zt.of_owns HO.out |>.kept (fun j h0 _ _=>hb1.block j h0)).owns;have hsz:w.heap.size+1<=w1.heap.size:=(by have:=hb1.size;omega);clear hb1 b0 b1 b2 b3 b4 HO HB HX;go_wp2_with (at_builtin;refine wpList_append_own _ rfl _ _ 27 rfl (w.heap.size+1) 3 i0 (int i64 0) 1 8 Tryz.underlying27 hi hz0 hz1 hz2 rfl (by decide) _ _ _ rfl (hO4.alloc _) ⟨w1.heap.size,0,none⟩ 1 1 [int i64 1] rfl rfl ?c1 ?c2 ?c3 ?c4 ?c5 ?_)
   case c1 =>
    intro i u hi
    match i,hi with
    | 0,hi=>simp at hi;subst hi;simp [Addr.add]
   case c2=>intro u hu;simp at hu;subst hu;rfl
   case c3=>unfold maxLen;omega
   case c4=>omega
   case c5=>simp;omega
   intro v' w5 hown' hgrow' _;obtain ⟨hB5,hX5⟩:=z3m (Nat.le_succ _) hO4 HB1.out hgrow';have HB5:=Hd hB5;have HX5:=Hd ((hX5 w.heap.size (Nat.lt_succ_self _) (by omega)).trans HX1.out);have HO5:Hid (w5.ownsRow (w.heap.size+1) 3 1 v' (xs ++ [1]).length ((xs ++ [1]).map (Value.int .i64))):=(by rw [List.length_append,List.map_append];exact hown');obtain ⟨g',cap'',rfl⟩:=Joins.ownsRow_form hown' (by omega);clear hown' hgrow' hO4 hB5 hX5 HB1 HX1;go_wp2;go_roundw
   case rel=>exact ⟨k+1,by go_num,by omega,by rw [HT.out];exact HO5,HB5,HX5⟩
   case measure=>simp [intOf];omega
theorem zdG (ac ar:Option Addr) (cc cr:Nat) (t:T) (width:Int) (hw:0<=width/\width<=300) (L:List Int) (C:Nat) (hC:C<=88) (hCt:C=zG t) (hLC:L.length=C) (hLs:L.all wtB=true) (ah aw:Option Addr) (ch cw:Nat) (w:World) {z:Nat} (hc:z08 w z (.slice ac t.cols.length cc) t.cols) (h1:zC w (.slice ah C ch) L) :
  Calls Tryz.prog 92 #[.agg #[.slice ac t.cols.length cc,int i64 t.head,int i64 t.foot,.slice ar t.rows.length cr,int i64 t.gap],int i64 2,.slice ah C ch,.slice aw C cw,int i64 width] w fun e w'=>∃ v,e=.returned v/\zt w' w.heap.size w'.heap.size v (z11 t width L)/\Below w.heap.size w w':=by
 have hmx:Tryz.prog.follows .mixedOrders=true:=(by kernel_rfl);obtain ⟨i0,hi,hz0,hz1,hz2⟩:=info_parts z75;have HC:=Hd hc;have H1:=Hd h1;have HL:=Hd hLC;have HLn:Hid ((z11 t width L).length=C):=(by rw [Hid,z38 t width L,hLC]);have HG:=Hd (fun k (hk:k < C)=>z4R (t:=t) (width:=width) (l:=L) (k:=k) (by omega));have HLg:=Hd (z3x hLs);have HKd:=Hd (fun j (hj:j < C)=>z76 (t:=t) (k:=j) (by omega));clear hCt;have K1:=ze (Below.refl w.heap.size w) (.cells #[.slice ac t.cols.length cc,int i64 t.head,int i64 t.foot,.slice ar t.rows.length cr,int i64 t.gap] 26);have X1:=zm w (.cells #[.slice ac t.cols.length cc,int i64 t.head,int i64 t.foot,.slice ar t.rows.length cr,int i64 t.gap] 26);have hs1:(w.alloc (.cells #[.slice ac t.cols.length cc,int i64 t.head,int i64 t.foot,.slice ar t.rows.length cr,int i64 t.gap] 26)).heap.size=w.heap.size+1:=(by simp);have HR0:=Hd (z4T (w.alloc (.cells #[.slice ac t.cols.length cc,int i64 t.head,int i64 t.foot,.slice ar t.rows.length cr,int i64 t.gap] 26)) (w.heap.size+1) (by omega));have HK0:=Hd (ze K1 (.cells #[] 3));have HX0:=Hd ((Below.heap_alloc (w.alloc (.cells #[.slice ac t.cols.length cc,int i64 t.head,int i64 t.foot,.slice ar t.rows.length cr,int i64 t.gap] 26)) (.cells #[] 3) w.heap.size (by omega)).trans X1);rw [hs1] at HR0;clear hc K1 X1 h1 hLC hLs;go_enter Tryz.func92,Tryz.ntmps92;go_wp2_with fail
 go_loopw [11,12] (fun o i W=>∃ k:Nat,i=int i64 k/\k<=C/\Hid (W.ownsRow (w.heap.size+1) 3 1 o ((z11 t width L).take k).length (((z11 t width L).take k).map (Value.int .i64)))/\Hid (Below w.heap.size w W)/\Hid (W.heap[w.heap.size]?=some (.cells #[.slice ac t.cols.length cc,int i64 t.head,int i64 t.foot,.slice ar t.rows.length cr,int i64 t.gap] 26))) (fun _ i _=>C - (intOf i).toNat)
 case atStart=>exact ⟨0,rfl,Nat.zero_le _,by rw [List.take_zero];exact HR0.out.owns,HK0,HX0⟩
 case round =>
  clear HR0 HK0 HX0;obtain ⟨k,rfl,hk,HO,HB,HX⟩:=hrel;by_cases hlt:k < C
  case neg =>
   obtain rfl:k=C:=by omega
   have HR:=Hd (zt.of_owns HO.out);rw [show (z11 t width L).take k=z11 t width L by rw [List.take_of_length_le (by rw [HLn.out];exact Nat.le_refl _)]] at HR;go_wp2;go_ret;exact ⟨_,rfl,HR.out.base (by omega) (Nat.le_refl _),HB.out⟩
  have hwz:w.heap.size < wr.heap.size:=(bL HX.out);have b0:wr.cell? ⟨w.heap.size,0,none⟩=some (.slice ac t.cols.length cc):=zf HX.out;have b1:wr.cell? ⟨w.heap.size,1,none⟩=some (int i64 t.head):=zf HX.out;have b2:wr.cell? ⟨w.heap.size,2,none⟩=some (int i64 t.foot):=zf HX.out;have b3:wr.cell? ⟨w.heap.size,3,none⟩=some (.slice ar t.rows.length cr):=zf HX.out;have b4:wr.cell? ⟨w.heap.size,4,none⟩=some (int i64 t.gap):=zf HX.out;have KS:=Hd (z57 ac ar cc cr t (k:Int) (by omega) wr (HC.out.kept HB.out));have hkq:=z8P t 2 k;have hol:((z11 t width L).take k).length<=k:=(by rw [List.length_take];omega);have HT:Hid ((z11 t width L).take (k+1)=(z11 t width L).take k ++ [(z11 t width L).getD k 0]):=(by rw [Hid,z65 (by rw [HLn.out];exact hlt)]);rw [HG.out k hlt] at HT;have hkd:=HKd.out k hlt;generalize (z11 t width L).take k=xs at HO HT hol;generalize sd t.cols k=p at KS hkq HT hkd
  cases hp:zq t 2 k with
  | false =>
   rw [hp] at hkq HT;simp only [Bool.false_eq_true,if_false] at HT;clear hp;go_wp2_with fail
   refine KS.out.mono ?_;rintro e w1 ⟨rfl,hb1⟩;have HB1:=Hd (ze (zi HB.out hb1) (.cells #[int i64 p.1,int i64 p.2] 105));have HX1:=Hd ((Below.heap_alloc w1 (.cells #[int i64 p.1,int i64 p.2] 105) w.heap.size (by have:=hb1.size;omega)).trans ((hb1.block w.heap.size hwz).trans HX.out));have hsz:w.heap.size+1<=w1.heap.size:=(by have:=hb1.size;omega);have hsz2:(w1.alloc (.cells #[int i64 p.1,int i64 p.2] 105)).heap.size=w1.heap.size+1:=(by simp);have HOx:=Hd (zt.of_owns HO.out |>.kept (w':=w1.alloc (.cells #[int i64 p.1,int i64 p.2] 105)) (fun j h0 _ _=>(Below.heap_alloc _ _ _ (Nat.lt_of_lt_of_le h0 hb1.size)).trans (hb1.block j h0)));have HY:=Hd (zm w1 (.cells #[int i64 p.1,int i64 p.2] 105));clear hb1 b0 b1 b2 b3 b4 HO HB HX;go_upto_region 6 with fail
   generalize w1.alloc (.cells #[int i64 p.1,int i64 p.2] 105)=W2 at HB1 HX1 HOx HY hsz2 |-;generalize w1.heap.size=yb at HY hsz hsz2 |-;have hszW:w.heap.size+1<=W2.heap.size:=(by omega);clear hsz2;have y0:W2.cell? ⟨yb,0,none⟩=some (int i64 p.1):=zf HY.out;have hO4:=HOx.out.owns;go_wp2_with (at_builtin;refine wpList_append_own _ rfl _ _ 27 rfl (w.heap.size+1) 3 i0 (int i64 0) 1 8 Tryz.underlying27 hi hz0 hz1 hz2 rfl (by decide) _ _ _ rfl (hO4.alloc _) ⟨W2.heap.size,0,none⟩ 1 1 [int i64 0] rfl rfl ?c1 ?c2 ?c3 ?c4 ?c5 ?_)
   case c1 =>
    intro i u hi
    match i,hi with
    | 0,hi=>simp at hi;subst hi;simp [Addr.add]
   case c2=>intro u hu;simp at hu;subst hu;rfl
   case c3=>unfold maxLen;omega
   case c4=>omega
   case c5=>simp;omega
   intro v' w5 hown' hgrow' _;obtain ⟨hB5,hX5⟩:=z3m (Nat.le_succ _) hO4 HB1.out hgrow';have HB5:=Hd hB5;have HX5:=Hd ((hX5 w.heap.size (Nat.lt_succ_self _) (by omega)).trans HX1.out);have HO5:Hid (w5.ownsRow (w.heap.size+1) 3 1 v' (xs ++ [0]).length ((xs ++ [0]).map (Value.int .i64))):=(by rw [List.length_append,List.map_append];exact hown');obtain ⟨g',cap'',rfl⟩:=Joins.ownsRow_form hown' (by omega);clear hown' hgrow' hO4 hB5 hX5 HB1 HX1;go_wp2;go_roundw
   case rel=>exact ⟨k+1,by go_num,by omega,by rw [HT.out];exact HO5,HB5,HX5⟩
   case measure=>simp [intOf];omega
  | true =>
   rw [hp] at hkq HT;simp only [if_true] at HT;have hp1:p.1=2:=(by simpa using hkq);clear hp hkq;obtain ⟨b5,o5,c5,e5,hc51,hc52,hb5,hx5⟩:=H1.out.get (i:=k) (by rw [HL.out];exact hlt);rw [HL.out] at e5 hc51;simp only [Value.slice.injEq,true_and] at e5;obtain ⟨rfl,rfl⟩:=e5;have hxs:=HLg.out k;generalize L.getD k 0=x at hx5 hxs HT;have hp2:1<=p.2/\p.2<=100:=(by omega);have hm0:0<=width * p.2:=Int.mul_nonneg hw.1 (by omega);have hm1:width * p.2<=30000:=Int.le_trans (Int.mul_le_mul hw.2 hp2.2 (by omega) (by omega)) (by omega);have hq:Int.tdiv (width * p.2) 100=width * p.2 / 100:=Int.tdiv_eq_ediv_of_nonneg hm0;unfold maxLen at hc52;go_wp2_with fail
   refine KS.out.mono ?_;rintro e w1 ⟨rfl,hb1⟩;have HB1:=Hd (ze (zi HB.out hb1) (.cells #[int i64 p.1,int i64 p.2] 105));have HX1:=Hd ((Below.heap_alloc w1 (.cells #[int i64 p.1,int i64 p.2] 105) w.heap.size (by have:=hb1.size;omega)).trans ((hb1.block w.heap.size hwz).trans HX.out));have hsz:w.heap.size+1<=w1.heap.size:=(by have:=hb1.size;omega);have hsz2:(w1.alloc (.cells #[int i64 p.1,int i64 p.2] 105)).heap.size=w1.heap.size+1:=(by simp);have HOx:=Hd (zt.of_owns HO.out |>.kept (w':=w1.alloc (.cells #[int i64 p.1,int i64 p.2] 105)) (fun j h0 _ _=>(Below.heap_alloc _ _ _ (Nat.lt_of_lt_of_le h0 hb1.size)).trans (hb1.block j h0)));have HY:=Hd (zm w1 (.cells #[int i64 p.1,int i64 p.2] 105));clear hb1 b0 b1 b2 b3 b4 HO HB HX KS;rw [hp1] at HB1 HX1 hsz2 HOx HY |-;clear hp1;go_upto_region 6 with fail
   generalize w1.alloc (.cells #[int i64 2,int i64 p.2] 105)=W2 at HB1 HX1 HOx HY hsz2 |-;generalize w1.heap.size=yb at HY hsz hsz2 |-;have y0:W2.cell? ⟨yb,0,none⟩=some (int i64 2):=zf HY.out;have hyb:yb < W2.heap.size:=(bL HY.out);have hwz2:w.heap.size < W2.heap.size:=(by omega);have hszW:w.heap.size+1<=W2.heap.size:=(by omega);clear hsz2;have hne:=z0x W2;have m0:=zj (a:=⟨yb,1,none⟩) hyb (zf (p:=1) HY.out);have m1:=zj (a:=⟨b5,o5+k,none⟩) (Nat.lt_of_lt_of_le hb5 HB1.out.size) ((HB1.out.cell (p:=⟨b5,o5+k,none⟩) hb5).trans hx5);have KM:=Hd (fun (W:World) (p:BW W) (i j:Int)=>z1R (z34 i j p.u));clear hx5;go_upto_region 8 with fail
   refine zo hmx (by kernel_rfl) ?_;repeat (go_big_quiet_step (first | (go_at_call 82;refine KM.out _ _ _ _)))
   refine wpQuiet_nil ?_;intro W5 hw';obtain ⟨⟨Wx,hW5⟩,hw''⟩:=hw';subst hw'';have HOz:=Hd (HOx.out.kept (fun j h0 _ _=>hW5.block j h0));have HYz:=(hW5.block _ hyb).trans HY.out;replace HX1:=Hd ((hW5.block _ hwz2).trans HX1.out);replace HB1:=Hd (zi HB1.out hW5);have hsz5:w.heap.size+1<=W5.heap.size:=(by have:=hW5.size;omega);clear m0 m1 hne hW5 HOx HY y0;have y0:W5.cell? ⟨yb,0,none⟩=some (int i64 2):=zf HYz;have hO4:=HOz.out.owns;generalize max 0 (width * p.2 / 100 - x)=yy at HT |-;go_wp2_with (at_builtin;refine wpList_append_own _ rfl _ _ 27 rfl (w.heap.size+1) 3 i0 (int i64 0) 1 8 Tryz.underlying27 hi hz0 hz1 hz2 rfl (by decide) _ _ _ rfl (hO4.alloc _) ⟨W5.heap.size,0,none⟩ 1 1 [int i64 yy] rfl rfl ?c1 ?c2 ?c3 ?c4 ?c5 ?_)
   case c1 =>
    intro i u hi
    match i,hi with
    | 0,hi=>simp at hi;subst hi;simp [Addr.add]
   case c2=>intro u hu;simp at hu;subst hu;rfl
   case c3=>unfold maxLen;omega
   case c4=>omega
   case c5=>simp;omega
   intro v' w5 hown' hgrow' _;obtain ⟨hB5,hX5⟩:=z3m (Nat.le_succ _) hO4 HB1.out hgrow';have HB5:=Hd hB5;have HX5:=Hd ((hX5 w.heap.size (Nat.lt_succ_self _) (by omega)).trans HX1.out);have HO5:Hid (w5.ownsRow (w.heap.size+1) 3 1 v' (xs ++ [yy]).length ((xs ++ [yy]).map (Value.int .i64))):=(by rw [List.length_append,List.map_append];exact hown');obtain ⟨g',cap'',rfl⟩:=Joins.ownsRow_form hown' (by omega);clear hown' hgrow' hO4 hB5 hX5 HB1 HX1;go_wp2;go_roundw
   case rel=>exact ⟨k+1,by go_num,by omega,by rw [HT.out];exact HO5,HB5,HX5⟩
   case measure=>simp [intOf];omega
theorem zdH (ac ar:Option Addr) (cc cr:Nat) (t:T) (width:Int) (L:List Int) (C:Nat) (hC:C<=88) (hLC:L.length=C) (hLs:L.all wtB=true) (ah aw:Option Addr) (ch cw:Nat) (w:World) {z:Nat} (hc:z08 w z (.slice ac t.cols.length cc) t.cols) (h1:zC w (.slice ah C ch) L) (h2:zC w (.slice aw C cw) (z23 t)) (hWu:UpB (z23 t) 5000) (hWl:(z23 t).length=C) :
  Calls Tryz.prog 92 #[.agg #[.slice ac t.cols.length cc,int i64 t.head,int i64 t.foot,.slice ar t.rows.length cr,int i64 t.gap],int i64 0,.slice ah C ch,.slice aw C cw,int i64 width] w fun e w'=>∃ v,e=.returned v/\zt w' w.heap.size w'.heap.size v (z12 t L)/\Below w.heap.size w w':=by
 have hmx:Tryz.prog.follows .mixedOrders=true:=(by kernel_rfl);obtain ⟨i0,hi,hz0,hz1,hz2⟩:=info_parts z75;have HC:=Hd hc;have H1:=Hd h1;have H2:=Hd h2;have HWl:=Hd hWl;have HWu:=Hd hWu;have HL:=Hd hLC;have HLn:Hid ((z12 t L).length=C):=(by rw [Hid,z2L t L,hLC]);have HG:=Hd (fun k (hk:k < C)=>z4S (t:=t) (l:=L) (k:=k) (by omega));have HLg:=Hd (z3x hLs);have K1:=ze (Below.refl w.heap.size w) (.cells #[.slice ac t.cols.length cc,int i64 t.head,int i64 t.foot,.slice ar t.rows.length cr,int i64 t.gap] 26);have X1:=zm w (.cells #[.slice ac t.cols.length cc,int i64 t.head,int i64 t.foot,.slice ar t.rows.length cr,int i64 t.gap] 26);have hs1:(w.alloc (.cells #[.slice ac t.cols.length cc,int i64 t.head,int i64 t.foot,.slice ar t.rows.length cr,int i64 t.gap] 26)).heap.size=w.heap.size+1:=(by simp);have HR0:=Hd (z4T (w.alloc (.cells #[.slice ac t.cols.length cc,int i64 t.head,int i64 t.foot,.slice ar t.rows.length cr,int i64 t.gap] 26)) (w.heap.size+1) (by omega));have HK0:=Hd (ze K1 (.cells #[] 3));have HX0:=Hd ((Below.heap_alloc (w.alloc (.cells #[.slice ac t.cols.length cc,int i64 t.head,int i64 t.foot,.slice ar t.rows.length cr,int i64 t.gap] 26)) (.cells #[] 3) w.heap.size (by omega)).trans X1);rw [hs1] at HR0;clear hc K1 X1 h1 h2 hWu hWl hLC hLs;go_enter Tryz.func92,Tryz.ntmps92;go_wp2_with fail
 go_loopw [11,12] (fun o i W=>∃ k:Nat,i=int i64 k/\k<=C/\Hid (W.ownsRow (w.heap.size+1) 3 1 o ((z12 t L).take k).length (((z12 t L).take k).map (Value.int .i64)))/\Hid (Below w.heap.size w W)/\Hid (W.heap[w.heap.size]?=some (.cells #[.slice ac t.cols.length cc,int i64 t.head,int i64 t.foot,.slice ar t.rows.length cr,int i64 t.gap] 26))) (fun _ i _=>C - (intOf i).toNat)
 case atStart=>exact ⟨0,rfl,Nat.zero_le _,by rw [List.take_zero];exact HR0.out.owns,HK0,HX0⟩
 case round =>
  clear HR0 HK0 HX0;obtain ⟨k,rfl,hk,HO,HB,HX⟩:=hrel;by_cases hlt:k < C
  case neg =>
   obtain rfl:k=C:=by omega
   have HR:=Hd (zt.of_owns HO.out);rw [show (z12 t L).take k=z12 t L by rw [List.take_of_length_le (by rw [HLn.out];exact Nat.le_refl _)]] at HR;go_wp2;go_ret;exact ⟨_,rfl,HR.out.base (by omega) (Nat.le_refl _),HB.out⟩
  have hwz:w.heap.size < wr.heap.size:=(bL HX.out);have b0:wr.cell? ⟨w.heap.size,0,none⟩=some (.slice ac t.cols.length cc):=zf HX.out;have b1:wr.cell? ⟨w.heap.size,1,none⟩=some (int i64 t.head):=zf HX.out;have b2:wr.cell? ⟨w.heap.size,2,none⟩=some (int i64 t.foot):=zf HX.out;have b3:wr.cell? ⟨w.heap.size,3,none⟩=some (.slice ar t.rows.length cr):=zf HX.out;have b4:wr.cell? ⟨w.heap.size,4,none⟩=some (int i64 t.gap):=zf HX.out;have KS:=Hd (z57 ac ar cc cr t (k:Int) (by omega) wr (HC.out.kept HB.out));have hkq:=z8P t 0 k;have hol:((z12 t L).take k).length<=k:=(by rw [List.length_take];omega);have HT:Hid ((z12 t L).take (k+1)=(z12 t L).take k ++ [(z12 t L).getD k 0]):=(by rw [Hid,z65 (by rw [HLn.out];exact hlt)]);rw [HG.out k hlt] at HT;generalize (z12 t L).take k=xs at HO HT hol;generalize sd t.cols k=p at KS hkq HT
  cases hp:zq t 0 k with
  | false =>
   rw [hp] at hkq HT;simp only [Bool.false_eq_true,if_false] at HT;clear hp;go_wp2_with fail
   refine KS.out.mono ?_;rintro e w1 ⟨rfl,hb1⟩;have HB1:=Hd (ze (zi HB.out hb1) (.cells #[int i64 p.1,int i64 p.2] 105));have HX1:=Hd ((Below.heap_alloc w1 (.cells #[int i64 p.1,int i64 p.2] 105) w.heap.size (by have:=hb1.size;omega)).trans ((hb1.block w.heap.size hwz).trans HX.out));have hsz:w.heap.size+1<=w1.heap.size:=(by have:=hb1.size;omega);have hsz2:(w1.alloc (.cells #[int i64 p.1,int i64 p.2] 105)).heap.size=w1.heap.size+1:=(by simp);have HOx:=Hd (zt.of_owns HO.out |>.kept (w':=w1.alloc (.cells #[int i64 p.1,int i64 p.2] 105)) (fun j h0 _ _=>(Below.heap_alloc _ _ _ (Nat.lt_of_lt_of_le h0 hb1.size)).trans (hb1.block j h0)));have HY:=Hd (zm w1 (.cells #[int i64 p.1,int i64 p.2] 105));clear hb1 b0 b1 b2 b3 b4 HO HB HX;go_upto_region 6 with fail
   generalize w1.alloc (.cells #[int i64 p.1,int i64 p.2] 105)=W2 at HB1 HX1 HOx HY hsz2 |-;generalize w1.heap.size=yb at HY hsz hsz2 |-;have hszW:w.heap.size+1<=W2.heap.size:=(by omega);clear hsz2;have y0:W2.cell? ⟨yb,0,none⟩=some (int i64 p.1):=zf HY.out;have hO4:=HOx.out.owns;go_wp2_with (at_builtin;refine wpList_append_own _ rfl _ _ 27 rfl (w.heap.size+1) 3 i0 (int i64 0) 1 8 Tryz.underlying27 hi hz0 hz1 hz2 rfl (by decide) _ _ _ rfl (hO4.alloc _) ⟨W2.heap.size,0,none⟩ 1 1 [int i64 0] rfl rfl ?c1 ?c2 ?c3 ?c4 ?c5 ?_)
   case c1 =>
    intro i u hi
    match i,hi with
    | 0,hi=>simp at hi;subst hi;simp [Addr.add]
   case c2=>intro u hu;simp at hu;subst hu;rfl
   case c3=>unfold maxLen;omega
   case c4=>omega
   case c5=>simp;omega
   intro v' w5 hown' hgrow' _;obtain ⟨hB5,hX5⟩:=z3m (Nat.le_succ _) hO4 HB1.out hgrow';have HB5:=Hd hB5;have HX5:=Hd ((hX5 w.heap.size (Nat.lt_succ_self _) (by omega)).trans HX1.out);have HO5:Hid (w5.ownsRow (w.heap.size+1) 3 1 v' (xs ++ [0]).length ((xs ++ [0]).map (Value.int .i64))):=(by rw [List.length_append,List.map_append];exact hown');obtain ⟨g',cap'',rfl⟩:=Joins.ownsRow_form hown' (by omega);clear hown' hgrow' hO4 hB5 hX5 HB1 HX1;go_wp2;go_roundw
   case rel=>exact ⟨k+1,by go_num,by omega,by rw [HT.out];exact HO5,HB5,HX5⟩
   case measure=>simp [intOf];omega
  | true =>
   rw [hp] at hkq HT;simp only [if_true] at HT;have hp1:p.1=0:=(by simpa using hkq);clear hp hkq;obtain ⟨b5,o5,c5,e5,hc51,hc52,hb5,hx5⟩:=H1.out.get (i:=k) (by rw [HL.out];exact hlt);rw [HL.out] at e5 hc51;simp only [Value.slice.injEq,true_and] at e5;obtain ⟨rfl,rfl⟩:=e5;have hxs:=HLg.out k;generalize L.getD k 0=x at hx5 hxs HT;obtain ⟨b6,o6,c6,e6,hc61,hc62,hb6,hx6⟩:=H2.out.get (i:=k) (by rw [HWl.out];exact hlt);rw [HWl.out] at e6 hc61;simp only [Value.slice.injEq,true_and] at e6;obtain ⟨rfl,rfl⟩:=e6;have hys:=HWu.out k (by rw [HWl.out];exact hlt);generalize (z23 t).getD k 0=y at hx6 hys HT;unfold maxLen at hc52 hc62;go_wp2_with fail
   refine KS.out.mono ?_;rintro e w1 ⟨rfl,hb1⟩;have HB1:=Hd (ze (zi HB.out hb1) (.cells #[int i64 p.1,int i64 p.2] 105));have HX1:=Hd ((Below.heap_alloc w1 (.cells #[int i64 p.1,int i64 p.2] 105) w.heap.size (by have:=hb1.size;omega)).trans ((hb1.block w.heap.size hwz).trans HX.out));have hsz:w.heap.size+1<=w1.heap.size:=(by have:=hb1.size;omega);have hsz2:(w1.alloc (.cells #[int i64 p.1,int i64 p.2] 105)).heap.size=w1.heap.size+1:=(by simp);have HOx:=Hd (zt.of_owns HO.out |>.kept (w':=w1.alloc (.cells #[int i64 p.1,int i64 p.2] 105)) (fun j h0 _ _=>(Below.heap_alloc _ _ _ (Nat.lt_of_lt_of_le h0 hb1.size)).trans (hb1.block j h0)));have HY:=Hd (zm w1 (.cells #[int i64 p.1,int i64 p.2] 105));clear hb1 b0 b1 b2 b3 b4 HO HB HX KS;rw [hp1] at HB1 HX1 hsz2 HOx HY |-;clear hp1;go_upto_region 6 with fail
   generalize w1.alloc (.cells #[int i64 0,int i64 p.2] 105)=W2 at HB1 HX1 HOx HY hsz2 |-;generalize w1.heap.size=yb at HY hsz hsz2 |-;have y0:W2.cell? ⟨yb,0,none⟩=some (int i64 0):=zf HY.out;have hyb:yb < W2.heap.size:=(bL HY.out);have hwz2:w.heap.size < W2.heap.size:=(by omega);have hszW:w.heap.size+1<=W2.heap.size:=(by omega);clear hsz2;have hne:=z0x W2;have m0:=zj (a:=⟨yb,1,none⟩) hyb (zf (p:=1) HY.out);have m1:=zj (a:=⟨b5,o5+k,none⟩) (Nat.lt_of_lt_of_le hb5 HB1.out.size) ((HB1.out.cell (p:=⟨b5,o5+k,none⟩) hb5).trans hx5);have m2:=zj (a:=⟨b6,o6+k,none⟩) (Nat.lt_of_lt_of_le hb6 HB1.out.size) ((HB1.out.cell (p:=⟨b6,o6+k,none⟩) hb6).trans hx6);have KM:=Hd (fun (W:World) (p:BW W) (i j:Int)=>z1R (z34 i j p.u));clear hx5 hx6;go_upto_region 10 with fail
   refine zo hmx (by kernel_rfl) ?_;repeat (go_big_quiet_step (first | (go_at_call 82;refine KM.out _ _ _ _)))
   refine wpQuiet_nil ?_;intro W5 hw';obtain ⟨⟨Wx,hW5⟩,hw''⟩:=hw';subst hw'';have HOz:=Hd (HOx.out.kept (fun j h0 _ _=>hW5.block j h0));have HYz:=(hW5.block _ hyb).trans HY.out;replace HX1:=Hd ((hW5.block _ hwz2).trans HX1.out);replace HB1:=Hd (zi HB1.out hW5);have hsz5:w.heap.size+1<=W5.heap.size:=(by have:=hW5.size;omega);clear m0 m1 m2 hne hW5 HOx HY y0;have y0:W5.cell? ⟨yb,0,none⟩=some (int i64 0):=zf HYz;have hO4:=HOz.out.owns;generalize max 0 (y - x)=yy at HT |-;go_wp2_with (at_builtin;refine wpList_append_own _ rfl _ _ 27 rfl (w.heap.size+1) 3 i0 (int i64 0) 1 8 Tryz.underlying27 hi hz0 hz1 hz2 rfl (by decide) _ _ _ rfl (hO4.alloc _) ⟨W5.heap.size,0,none⟩ 1 1 [int i64 yy] rfl rfl ?c1 ?c2 ?c3 ?c4 ?c5 ?_)
   case c1 =>
    intro i u hi
    match i,hi with
    | 0,hi=>simp at hi;subst hi;simp [Addr.add]
   case c2=>intro u hu;simp at hu;subst hu;rfl
   case c3=>unfold maxLen;omega
   case c4=>omega
   case c5=>simp;omega
   intro v' w5 hown' hgrow' _;obtain ⟨hB5,hX5⟩:=z3m (Nat.le_succ _) hO4 HB1.out hgrow';have HB5:=Hd hB5;have HX5:=Hd ((hX5 w.heap.size (Nat.lt_succ_self _) (by omega)).trans HX1.out);have HO5:Hid (w5.ownsRow (w.heap.size+1) 3 1 v' (xs ++ [yy]).length ((xs ++ [yy]).map (Value.int .i64))):=(by rw [List.length_append,List.map_append];exact hown');obtain ⟨g',cap'',rfl⟩:=Joins.ownsRow_form hown' (by omega);clear hown' hgrow' hO4 hB5 hX5 HB1 HX1;go_wp2;go_roundw
   case rel=>exact ⟨k+1,by go_num,by omega,by rw [HT.out];exact HO5,HB5,HX5⟩
   case measure=>simp [intOf];omega
end Go.Proofs.YtggmjiddadjilahGreat
