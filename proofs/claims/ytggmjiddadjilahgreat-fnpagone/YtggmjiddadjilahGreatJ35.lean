/-
  PROVED HERE: the program's HgtLines at a drawn table and any width: the lines of each cell, in memory of their own; nothing that was in memory is turned. Also: 3 more texts of the same proof.
-/
import Derived.Test.YtggmjiddadjilahGreatJ34
import Derived.Test.YtggmjiddadjilahGreatJ11
set_option maxRecDepth 1000000
set_option maxHeartbeats 40000000
open Go.Proofs.Tryz
namespace Go.Proofs.YtggmjiddadjilahGreat
open Value (int)
open IntKind (i64)
section
open Go.RowKit Go.BigFrame
structure HlJ (w W1 W3:World) (BB:Nat) (ac ar ag:Option Addr) (cc cr cg:Nat) (t:T) (x:GC) (U:Value) (us:List Value) (ls:List (List ByteArray)) (lns:List ByteArray) (s:ByteArray) (q:Int) (va:Value) (k tb gb cb b off:Nat) (L:Nat->Bool) (W:World) (v6 v24 v25 v26 v27 v28 v29 v30 v31 v32 v33 v34 v35:Value):Prop where
 f0:L 0=true->v24=U
 f1:L 1=true->v25=.agg #[.slice ac t.cols.length cc,int i64 t.head,int i64 t.foot,.slice ar t.rows.length cr,int i64 t.gap]
 f2:L 2=true->v26=.agg #[int i64 x.row,int i64 x.col,int i64 x.rows,int i64 x.cols,int i64 x.ins]
 f3:L 3=true->v27=.string s
 f4:L 4=true->v28=va
 f5:L 5=true->v29=.pointer (some ⟨tb,4,none⟩)
 f6:L 6=true->v30=int i64 t.gap
 f7:L 7=true->v31=.agg #[int i64 x.row,int i64 x.col,int i64 x.rows,int i64 x.cols,int i64 x.ins]
 f8:L 8=true->v32=int i64 q
 f9:L 9=true->L 11=false->z1I W BB v33 lns
 f10:L 10=true->∃ g,v34=.slice (some ⟨g,0,none⟩) 1 1/\(L 11=false->W.cell? ⟨g,0,none⟩=some v33)
 fA:L 12=true->v6=v35
 nA:L 12=false->v6=U
 b4:L 11=false->Below W3.heap.size W3 W
 bel:Below W1.heap.size W1 W
 ownA:L 11=true->W.ownsRow BB 93 1 v35 (us ++ [v33]).length (us ++ [v33])/\z2F W BB (us ++ [v33]) (ls ++ [lns])
theorem zeb (a b c:Value) (W:World):(Instr.field 38 (.agg #[a,b,c]) 2).run prog W=.ok c W:=by kernel_rfl
theorem zdy (ac ar:Option Addr) (cc cr:Nat) (t:T) (hD:z0g t) (width:Int) (w:World) {z:Nat} (hc:z09 w z (.slice ac t.cols.length cc) t.cols) (hr:z05 w z (.slice ar t.rows.length cr) t.rows) :
  Calls prog 57 #[.agg #[.slice ac t.cols.length cc,int i64 t.head,int i64 t.foot,.slice ar t.rows.length cr,int i64 t.gap],int i64 width] w λe w'=>∃ v,e=.returned v/\z2c w' w.heap.size v (z5a t width)/\Below w.heap.size w w':=by
 have hmx:prog.follows .mixedOrders=true:=(by kernel_rfl);have hfld:=zeb;obtain ⟨i0,hi0,hz0,hz1,hz2⟩:=info_parts zh5;have HK0:=O (ze (Below.refl w.heap.size w) (.cells #[.slice ac t.cols.length cc,int i64 t.head,int i64 t.foot,.slice ar t.rows.length cr,int i64 t.gap] 26));have HX0:=O (zj w (.cells #[.slice ac t.cols.length cc,int i64 t.head,int i64 t.foot,.slice ar t.rows.length cr,int i64 t.gap] 26));have HT0:Hid (TA w z ac ar cc cr t):=⟨hc,hr⟩;have hs0:(w.alloc (.cells #[.slice ac t.cols.length cc,int i64 t.head,int i64 t.foot,.slice ar t.rows.length cr,int i64 t.gap] 26)).heap.size=w.heap.size+1:=(by simp);clear hc hr;go_enter func57,ntmps57;go_upto_region 1 with fail
 generalize w.alloc (.cells #[.slice ac t.cols.length cc,int i64 t.head,int i64 t.foot,.slice ar t.rows.length cr,int i64 t.gap] 26)=W0 at HK0 HX0 hs0 |-;obtain ⟨b0,b1,b2,b3,b4⟩:=zL HX0.out;have KM:=O (z4D ac ar cc cr t width _ (HT0.out.kept HK0.out).1 (HT0.out.kept HK0.out).2)
 cases hmay:(zF t && zM width 0 300) with
 | false =>
  have HW:Hid (z5a t width=[]):=(by rw [Hid,z5a,if_neg (by rw [hmay];simp)]);rw [hmay] at KM;clear hmay;go_wp2_with fail
  refine KM.out.mono ?_;rintro e w2 ⟨rfl,hb2⟩;have HK2:=O (zi HK0.out hb2);clear hb2 KM b0 b1 b2 b3 b4;go_wp2;go_ret;exact ⟨_,rfl,by rw [HW.out];exact ⟨none,0,rfl,lR,nZ,λi hi=>absurd hi (Nat.not_lt_zero _)⟩,HK2.out⟩
 | true =>
  have HW:Hid (z5a t width=z0V t (z08 t width) (Z t).cells):=(by rw [Hid,z5a,if_pos hmay]);rw [hmay] at KM;have HWT:Hid (z5S t width=z08 t width):=(by rw [Hid,z5S,if_pos hmay]);rw [Bool.and_eq_true] at hmay;obtain ⟨htk,hin⟩:=hmay;have hw:0<=width/\width<=300:=(by simpa [zM] using hin);obtain ⟨_,hlw,_⟩:=zb7 hD htk hw;obtain ⟨_,hC88,_⟩:=z49 hD htk;obtain ⟨h40,C,hgc,hC88',hcel⟩:=z35 hD;have HCel:=O hcel;have HLw:=O hlw;have hl1:(z08 t width).length<=1048576:=(by rw [hlw];omega);have KC:=O (λW (h:TA W z ac ar cc cr t)=>ze9 ac ar cc cr t hD width W h.1 h.2);have KG:=O (λW (h:TA W z ac ar cc cr t)=>z6C ac ar cc cr t hD W h.1 h.2);rw [HWT.out] at KC;generalize z08 t width=l at KC HW HLw hl1;have HGk:=O (z73 hD);clear hlw hcel hgc hD htk hin hw hC88' HWT;go_wp2_with fail
  refine KM.out.mono ?_;rintro e w2 ⟨rfl,hb2⟩;have HX2:=O ((hb2.block w.heap.size (by omega)).trans HX0.out);have HK2:=O (zi HK0.out hb2);have hz2':w.heap.size < w2.heap.size:=(by have:=hb2.size;omega);clear hb2 KM b0 b1 b2 b3 b4 HX0 HK0;obtain ⟨b0,b1,b2,b3,b4⟩:=zL HX2.out;go_wp2_with fail
  refine (KC.out _ (HT0.out.kept HK2.out)).mono ?_;rintro e w3 ⟨v3,rfl,hR3,hb3⟩;obtain ⟨a3,c3,rfl⟩:=hR3.form;have HI3:=O hR3.at;rw [HLw.out] at HI3;have HX3:=O ((hb3.block w.heap.size hz2').trans HX2.out);have HK3:=O (zi HK2.out hb3);have hz3:w.heap.size < w3.heap.size:=(by have:=hb3.size;omega);clear hb3 hR3 b0 b1 b2 b3 b4 HX2 HK2;rw [HLw.out];obtain ⟨b0,b1,b2,b3,b4⟩:=zL HX3.out;go_wp2_with fail
  refine (KG.out _ (HT0.out.kept HK3.out)).mono ?_;rintro e W1 ⟨vg,rfl,hO4,hb4⟩;obtain ⟨ag,cg,rfl⟩:=z5L hO4;have HG1:=O (hO4.at HGk.out);have HX1:=O ((hb4.block w.heap.size hz3).trans HX3.out);have HK1:=O (zi HK3.out hb4);have HI1:=O (HI3.out.kept hb4);have hz1':w.heap.size < W1.heap.size:=(by have:=hb4.size;omega);have HLe:=O (z3x t l (Z t).cells);have HLn:=O (λk (h:k < (Z t).cells.length)=>z9b t l h);have HLs:=O (z9c t l (Z t).cells);clear hb4 hO4 b0 b1 b2 b3 b4 HX3 HK3 HI3;go_wp2_with fail
  go_loopw [6,20] (λo i W=>∃ (k:Nat) (us:List Value),i=int i64 k/\k<=(Z t).cells.length/\Hid (W.ownsRow W1.heap.size 93 1 o us.length us)/\Hid (z2F W W1.heap.size us ((z0V t l (Z t).cells).take k))/\Hid (Below W1.heap.size W1 W)) (λ_ i _=>(Z t).cells.length - (intOf i).toNat)
  case atStart=>exact ⟨0,[],rfl,nZ,World.ownsRow_nil _ _ _ _,by rw [List.take_zero];exact z2F.nil _ _,bR⟩
  case round =>
   obtain ⟨k,us,rfl,hk,HO,HRs,HBr⟩:=hrel;by_cases hkl:k < (Z t).cells.length
   case neg =>
    obtain rfl:k=(Z t).cells.length:=by omega
    rw [<-HLe.out,List.take_length] at HRs;have HF:=O (HRs.out.lls HO.out (z:=w.heap.size) (by omega) (by omega) HLs.out);have HK:=O (HK1.out.trans (HBr.out.mono (by omega)));go_wp2;go_ret;exact ⟨_,rfl,by rw [HW.out];exact HF.out,HK.out⟩
   obtain ⟨b,off,cap',e',hc1,hc2,hbl,hx,hxo⟩:=At.get (HG1.out.kept HBr.out) hkl;simp only [Value.slice.injEq,true_and] at e';obtain ⟨rfl,rfl⟩:=e';have HNx:=O (HLn.out k hkl);have HCx:=O (HCel.out k hkl);generalize (z0V t l (Z t).cells).take k=ls at HRs HNx;generalize (Z t).cells.getD k dG=x at hx hxo HNx HCx;obtain ⟨x0,x1,x2,x3,x4⟩:=hx;unfold maxLen at hc2;go_upto_region 8 with fail
   have HB4:=O (ze (Below.refl wr.heap.size wr) (.cells #[int i64 x.row,int i64 x.col,int i64 x.rows,int i64 x.cols,int i64 x.ins] 51));have HB1:=O (zi HBr.out HB4.out);have HC4:=O (zj wr (.cells #[int i64 x.row,int i64 x.col,int i64 x.rows,int i64 x.cols,int i64 x.ins] 51));have hlc:wr.heap.size < (wr.alloc (.cells #[int i64 x.row,int i64 x.col,int i64 x.rows,int i64 x.cols,int i64 x.ins] 51)).heap.size:=(by simp);have HX:=O ((HB1.out.block w.heap.size hz1').trans HX1.out);have hlt0:w.heap.size < (wr.alloc (.cells #[int i64 x.row,int i64 x.col,int i64 x.rows,int i64 x.cols,int i64 x.ins] 51)).heap.size:=(bL HX.out);replace HO:=O (z4B HO.out HB4.out);replace HRs:=O (HRs.out.kept HB4.out);generalize wr.alloc (.cells #[int i64 x.row,int i64 x.col,int i64 x.rows,int i64 x.cols,int i64 x.ins] 51)=W3 at HB4 HB1 HC4 hlc HX hlt0 HO HRs |-;generalize wr.heap.size=cb at HC4 hlc |-;have hsz:(zR t x).size<=maxLen:=z6M HCx.out HT0.out.2;have KT:=O (λW (h:Below W3.heap.size W3 W)=>zag ac ar cc cr t x HCx.out W (((HT0.out.2.kept HK1.out).kept HB1.out).kept h));have KW:=O (λW (h:Below W3.heap.size W3 W)=>z9a _ l hl1 t.gap x hxo W ((HI1.out.kept HB1.out).kept h));have KL:=O (λW=>zdw (zR t x) hsz (z2t l t.gap x) W);have HNy:Hid ((z0V t l (Z t).cells).take (k+1)=ls ++ [z01 (z1f (z2t l t.gap x) (zZ (zR t x)))]):=HNx.out;clear HNx hsz;have HNx:=HNy;clear HNy HCx hxo;generalize z01 (z1f (z2t l t.gap x) (zZ (zR t x)))=lns at KL HNx;generalize z2t l t.gap x=q at KW KL;generalize zR t x=s at KT KL;have husl:us.length<=40:=(by have h1:=HRs.out.1;have h2:=congrArg List.length HNx.out;rw [List.length_append,List.length_take,List.length_singleton] at h2;omega);have HBs:Hid (∀ {m:Nat},W1.heap.size<=m->W1.heap.size<=m):=λh=>h;have HBs2:Hid (∀ {m:Nat},W1.heap.size<=m->W1.heap.size<=m):=λh=>h;clear HCel HLn HLs HLe x0 x1 x2 x3 x4 HBr HB4;refine z0n (λL act W=>∃ v6 v24 v25 v26 v27 v28 v29 v30 v31 v32 v33 v34 v35:Value,act=⟨#[.agg #[.slice ac t.cols.length cc,int i64 t.head,int i64 t.foot,.slice ar t.rows.length cr,int i64 t.gap],int i64 width,.pointer (some ⟨w.heap.size,0,none⟩),undef,.slice none 0 0,.slice a3 (zG t) c3,v6,undef,.pointer (some ⟨cb,0,none⟩),.agg #[.slice ac t.cols.length cc,int i64 t.head,int i64 t.foot,.slice ar t.rows.length cr,int i64 t.gap],int i64 width,.bool true,.bool false,.agg #[.slice ac t.cols.length cc,int i64 t.head,int i64 t.foot,.slice ar t.rows.length cr,int i64 t.gap],int i64 width,.slice a3 (zG t) c3,.agg #[.slice ac t.cols.length cc,int i64 t.head,int i64 t.foot,.slice ar t.rows.length cr,int i64 t.gap],.agg #[int i64 (Z t).rows,int i64 (Z t).cols,.slice (some ⟨b,off,none⟩) (Z t).cells.length cg],.slice (some ⟨b,off,none⟩) (Z t).cells.length cg,int i64 ((Z t).cells.length:Int),int i64 (k:Int),.bool true,.pointer (some ⟨b,off+k * 5,none⟩),.agg #[int i64 x.row,int i64 x.col,int i64 x.rows,int i64 x.cols,int i64 x.ins],v24,v25,v26,v27,v28,v29,v30,v31,v32,v33,v34,v35,u36,undef],[]⟩/\HlJ w W1 W3 W1.heap.size ac ar (some ⟨b,off,none⟩) cc cr cg t x u6 us ls lns s q (.slice a3 (zG t) c3) k w.heap.size 0 cb b off L W v6 v24 v25 v26 v27 v28 v29 v30 v31 v32 v33 v34 v35) hmx (by kernel_rfl) ?hs ?hd ?h0
   case h0=>exact e13 ⟨rfl,⟨n0,n0,n0,n0,n0,n0,n0,n0,n0,n0,n0,n0,λ_=>rfl,λ_=>z0X bR,z0X HB1.out,n0⟩⟩
   case hd =>
    intro L act W hJ hall;obtain ⟨v6,v24,v25,v26,v27,v28,v29,v30,v31,v32,v33,v34,v35,ha,J⟩:=hJ;subst ha;obtain rfl:=J.fA (hall 12 (by decide));obtain ⟨ho5,hr5⟩:=J.ownA (hall 11 (by decide));have HO5:=O ho5;have HR5:=O hr5;have HB5:=O J.bel;obtain ⟨g',cap'',rfl⟩:=Joins.ownsRow_form HO5.out (by simp);clear J hall ho5 hr5;go_wp2;go_roundw
    case rel=>exact ⟨k+1,_,by go_num,by omega,HO5,by rw [HNx.out];exact HR5,HB5⟩
    case measure=>simp [intOf];omega
   case hs =>
    intro L act W i o hJ hcl ho hLi haft K hK;obtain ⟨v6,v24,v25,v26,v27,v28,v29,v30,v31,v32,v33,v34,v35,ha,J⟩:=hJ;subst ha
    have hi':i < 13:=by
     have:=(bL ho)
     simpa using this
    rcases (by omega:i=0\/i=1\/i=2\/i=3\/i=4\/i=5\/i=6\/i=7\/i=8\/i=9\/i=10\/i=11\/i=12) with rfl | rfl | rfl | rfl | rfl | rfl | rfl | rfl | rfl | rfl | rfl | rfl | rfl
    all_goals
     simp only [List.getElem?_toArray,List.getElem?_cons_zero,List.getElem?_cons_succ,Option.some.injEq] at ho;subst ho;clear hi'
    ·have hAp:L 11=false:=(Qh hcl 11 0 hLi);have hAs:L 12=false:=(Pl hcl 12 [11] hLi);have B4:=J.b4 hAp;obtain rfl:=J.nA hAs;go_simp;exact hK _ _ (e13 ⟨rfl,⟨λ_=>rfl,V J.f1,V J.f2,V J.f3,V J.f4,V J.f5,V J.f6,V J.f7,V J.f8,u2 J.f9,ub J.f10,uf hAs,V J.nA,λ_=>B4,J.bel,uf hAp⟩⟩)
    ·have hAp:L 11=false:=(Pl hcl 11 [10,9,3] hLi);have hAs:L 12=false:=(Pl hcl 12 [11,10,9,3] hLi);have B4:=J.b4 hAp;obtain ⟨q0,q1,q2,q3,q4⟩:=zL ((B4.block _ hlt0).trans HX.out);have hl:=nL hlt0 B4.size;go_simp;exact hK _ _ (e13 ⟨rfl,⟨V J.f0,λ_=>rfl,V J.f2,V J.f3,V J.f4,V J.f5,V J.f6,V J.f7,V J.f8,u2 J.f9,ub J.f10,uf hAs,V J.nA,λ_=>B4,J.bel,uf hAp⟩⟩)
    ·have hAp:L 11=false:=(Pl hcl 11 [10,9,3] hLi);have hAs:L 12=false:=(Pl hcl 12 [11,10,9,3] hLi);have B4:=J.b4 hAp;obtain ⟨q0,q1,q2,q3,q4⟩:=zL ((B4.block _ hlc).trans HC4.out);have hl:=nL hlc B4.size;go_simp;exact hK _ _ (e13 ⟨rfl,⟨V J.f0,V J.f1,λ_=>rfl,V J.f3,V J.f4,V J.f5,V J.f6,V J.f7,V J.f8,u2 J.f9,ub J.f10,uf hAs,V J.nA,λ_=>B4,J.bel,uf hAp⟩⟩)
    ·have hAp:L 11=false:=(Pl hcl 11 [10,9] hLi);have hAs:L 12=false:=(Pl hcl 12 [11,10,9] hLi);have B4:=J.b4 hAp;obtain rfl:=J.f1 (Fa haft 1);obtain rfl:=J.f2 (Fa haft 2);go_simp;go_wp2_with (go_at_call 102;refine (KT.out W B4).mono ?_;rintro e WN ⟨rfl,_,hb⟩)
     exact e13 ⟨rfl,⟨V J.f0,V J.f1,V J.f2,λ_=>rfl,V J.f4,V J.f5,V J.f6,V J.f7,V J.f8,λh h2=>(J.f9 (un h) (by rwa [zc rfl] at h2)).below hb lR,λh=>by obtain ⟨g,e,c⟩:=J.f10 (un h);exact ⟨g,e,λh2=>(hb.cell (World.block_lt_of_cell? _ _ (c (by rwa [zc rfl] at h2)))).trans (c (by rwa [zc rfl] at h2))⟩,uf hAs,V J.nA,λ_=>zi B4 hb,zi J.bel hb,uf hAp⟩⟩
    ·have hAp:L 11=false:=(Pl hcl 11 [10,9,8] hLi);have hAs:L 12=false:=(Pl hcl 12 [11,10,9,8] hLi);have B4:=J.b4 hAp;go_simp;exact hK _ _ (e13 ⟨rfl,⟨V J.f0,V J.f1,V J.f2,V J.f3,λ_=>rfl,V J.f5,V J.f6,V J.f7,V J.f8,u2 J.f9,ub J.f10,uf hAs,V J.nA,λ_=>B4,J.bel,uf hAp⟩⟩)
    ·have hAp:L 11=false:=(Pl hcl 11 [10,9,8,6] hLi);have hAs:L 12=false:=(Pl hcl 12 [11,10,9,8,6] hLi);have B4:=J.b4 hAp;go_simp;exact hK _ _ (e13 ⟨rfl,⟨V J.f0,V J.f1,V J.f2,V J.f3,V J.f4,λ_=>rfl,V J.f6,V J.f7,V J.f8,u2 J.f9,ub J.f10,uf hAs,V J.nA,λ_=>B4,J.bel,uf hAp⟩⟩)
    ·have hAp:L 11=false:=(Pl hcl 11 [10,9,8] hLi);have hAs:L 12=false:=(Pl hcl 12 [11,10,9,8] hLi);have B4:=J.b4 hAp;obtain ⟨q0,q1,q2,q3,q4⟩:=zL ((B4.block _ hlt0).trans HX.out);have hl:=nL hlt0 B4.size;obtain rfl:=J.f5 (Fa haft 5);go_simp;exact hK _ _ (e13 ⟨rfl,⟨V J.f0,V J.f1,V J.f2,V J.f3,V J.f4,V J.f5,λ_=>rfl,V J.f7,V J.f8,u2 J.f9,ub J.f10,uf hAs,V J.nA,λ_=>B4,J.bel,uf hAp⟩⟩)
    ·have hAp:L 11=false:=(Pl hcl 11 [10,9,8] hLi);have hAs:L 12=false:=(Pl hcl 12 [11,10,9,8] hLi);have B4:=J.b4 hAp;obtain ⟨q0,q1,q2,q3,q4⟩:=zL ((B4.block _ hlc).trans HC4.out);have hl:=nL hlc B4.size;go_simp;exact hK _ _ (e13 ⟨rfl,⟨V J.f0,V J.f1,V J.f2,V J.f3,V J.f4,V J.f5,V J.f6,λ_=>rfl,V J.f8,u2 J.f9,ub J.f10,uf hAs,V J.nA,λ_=>B4,J.bel,uf hAp⟩⟩)
    ·have hAp:L 11=false:=(Pl hcl 11 [10,9] hLi);have hAs:L 12=false:=(Pl hcl 12 [11,10,9] hLi);have B4:=J.b4 hAp;obtain rfl:=J.f4 (Fa haft 4);obtain rfl:=J.f6 (Fa haft 6);obtain rfl:=J.f7 (Fa haft 7);go_simp;go_wp2_with (go_at_call 103;refine (KW.out W B4).mono ?_;rintro e WN ⟨rfl,hb⟩)
     exact e13 ⟨rfl,⟨V J.f0,V J.f1,V J.f2,V J.f3,V J.f4,V J.f5,V J.f6,V J.f7,λ_=>rfl,λh h2=>(J.f9 (un h) (by rwa [zc rfl] at h2)).below hb lR,λh=>by obtain ⟨g,e,c⟩:=J.f10 (un h);exact ⟨g,e,λh2=>(hb.cell (World.block_lt_of_cell? _ _ (c (by rwa [zc rfl] at h2)))).trans (c (by rwa [zc rfl] at h2))⟩,uf hAs,V J.nA,λ_=>zi B4 hb,zi J.bel hb,uf hAp⟩⟩
    ·have hAp:L 11=false:=(Pl hcl 11 [10] hLi);have hAs:L 12=false:=(Pl hcl 12 [11,10] hLi);have B4:=J.b4 hAp;obtain rfl:=J.f3 (Fa haft 3);obtain rfl:=J.f8 (Fa haft 8);go_simp;go_wp2_with (go_at_call 101;refine (KL.out W).mono ?_;rintro e WN ⟨vt,rfl,hR,hb⟩;have hR2:=(z1I.of_owns hR).base (B':=W1.heap.size) (HBs.out J.bel.size);clear hR)
     exact e13 ⟨rfl,⟨V J.f0,V J.f1,V J.f2,V J.f3,V J.f4,V J.f5,V J.f6,V J.f7,V J.f8,λ_ _=>hR2,(λh=>by rw [zc rfl,(Qh hcl 10 9 hLi)] at h;cases h),uf hAs,V J.nA,λ_=>zi B4 hb,zi J.bel hb,uf hAp⟩⟩
    ·have hAp:L 11=false:=(Qh hcl 11 10 hLi);have hAs:L 12=false:=(Pl hcl 12 [11] hLi);have B4:=J.b4 hAp;obtain ⟨a9,c9,rfl⟩:=(J.f9 (Fa haft 9) hAp).form;go_simp;exact hK _ _ (e13 ⟨rfl,⟨V J.f0,V J.f1,V J.f2,V J.f3,V J.f4,V J.f5,V J.f6,V J.f7,V J.f8,λh h2=>(J.f9 (un h) (by rwa [zc rfl] at h2)).below (ze bR _) lR,λ_=>⟨_,rfl,λ_=>by simp⟩,uf hAs,V J.nA,λ_=>ze B4 _,ze J.bel _,uf hAp⟩⟩)
    ·have hAp:L 11=false:=hLi;have hAs:L 12=false:=(Qh hcl 12 11 hLi);have B4:=J.b4 hAp;obtain rfl:=J.f0 (Fa haft 0);obtain ⟨g,rfl,hg⟩:=J.f10 (Fa haft 10);have hO4:=z4B HO.out B4;have hT4:=J.f9 (by cases hz:L 9 with | true=>rfl | false=>have:=hcl 10 9 (by kernel_rfl) hz;rw [(Fa haft 10)] at this;cases this) hAp;rw [if_pos (by rfl)];refine wp_append_own _ (.tmp 24) (.tmp 34) 83 rfl W1.heap.size 93 i0 (.slice none 0 0) 1 24 underlying83 hi0 hz0 hz1 hz2 rfl (by decide) _ _ _ rfl hO4 ⟨g,0,none⟩ 1 1 [v33] rfl rfl ?c1 ?c2 ?c3 ?c4 ?c5 ?_
     case c1 =>
      intro i u hi
      match i,hi with
      | 0,hi=>simp at hi;subst hi;simpa [Addr.add] using hg hAp
     case c2=>intro u hu;simp at hu;subst hu;obtain ⟨a9,c9,rfl⟩:=hT4.form;rfl
     case c3=>unfold maxLen;omega
     case c4=>omega
     case c5=>exact HBs.out (J.bel.size)
     intro v' w5 hown' hgrow' _;have hB5:Below W1.heap.size W1 w5:=J.bel.grown hgrow' J.bel.size (λq hq=>HBs2.out (hO4.lt q hq).1);have hR5:=((HRs.out.kept B4).grown hO4 hgrow').next (hT4.grown hO4 hgrow');exact hK _ _ (e13 ⟨rfl,⟨V J.f0,V J.f1,V J.f2,V J.f3,V J.f4,V J.f5,V J.f6,V J.f7,V J.f8,(λ_ h2=>by rw [zJ] at h2;cases h2),(λ_=>⟨g,rfl,λh2=>by rw [zJ] at h2;cases h2⟩),uf hAs,V J.nA,(λh=>by rw [zJ] at h;cases h),hB5,λ_=>⟨by rw [List.length_append];exact hown',hR5⟩⟩⟩)
    ·go_simp;exact hK _ _ (e13 ⟨rfl,⟨V J.f0,V J.f1,V J.f2,V J.f3,V J.f4,V J.f5,V J.f6,V J.f7,V J.f8,u2 J.f9,ub J.f10,λ_=>rfl,(λh=>by rw [zJ] at h;cases h),V J.b4,J.bel,V J.ownA⟩⟩)
def HrP (W5:World) (R:Nat) (L:List Int) (W:World):Prop:=Below W5.heap.size W5 W/\zq W W5.heap.size (W5.heap.size+1) (.slice (some ⟨W5.heap.size,0,none⟩) R R) L/\W5.heap.size+1<=W.heap.size
theorem HrP.kept {W5 W W':World} {R:Nat} {L:List Int} (h:HrP W5 R L W) (hb:Below W.heap.size W W'):HrP W5 R L W' :=
 ⟨h.1.trans (hb.mono h.1.size),h.2.1.kept (λj h0 _ _=>hb.block j h0),nT h.2.2 hb.size⟩
theorem HrP.set {W5 W W':World} {R:Nat} {L:List Int} (h:HrP W5 R L W) {r:Nat} (hr:r < L.length) (hb:Below W.heap.size W W') (y:Int):HrP W5 R (L.set r y) (W'.setCell ⟨W5.heap.size,r,none⟩ (int i64 y)) :=
 ⟨z2s (h.kept hb).1 (p:=⟨W5.heap.size,r,none⟩) lR (int i64 y),(h.kept hb).2.1.set hr y,by rw [z31];exact (h.kept hb).2.2⟩
theorem z6W (ac ar:Option Addr) (cc cr:Nat) (t:T) (hD:z0g t) (width:Int) (w:World) {z:Nat} (hc:z09 w z (.slice ac t.cols.length cc) t.cols) (hr:z05 w z (.slice ar t.rows.length cr) t.rows) :
  Calls prog 22 #[.agg #[.slice ac t.cols.length cc,int i64 t.head,int i64 t.foot,.slice ar t.rows.length cr,int i64 t.gap],int i64 width] w λe w'=>∃ v,e=.returned v/\zq w' w.heap.size w'.heap.size v (zH t width)/\Below w.heap.size w w':=by
 have hmx:prog.follows .mixedOrders=true:=(by kernel_rfl);have HK0:=O (ze (Below.refl w.heap.size w) (.cells #[.slice ac t.cols.length cc,int i64 t.head,int i64 t.foot,.slice ar t.rows.length cr,int i64 t.gap] 26));have HX0:=O (zj w (.cells #[.slice ac t.cols.length cc,int i64 t.head,int i64 t.foot,.slice ar t.rows.length cr,int i64 t.gap] 26));have HT0:Hid (TA w z ac ar cc cr t):=⟨hc,hr⟩;have hs0:(w.alloc (.cells #[.slice ac t.cols.length cc,int i64 t.head,int i64 t.foot,.slice ar t.rows.length cr,int i64 t.gap] 26)).heap.size=w.heap.size+1:=(by simp);clear hc hr;go_enter func22,ntmps22;go_wp2_with fail
 go_step3
 generalize w.alloc (.cells #[.slice ac t.cols.length cc,int i64 t.head,int i64 t.foot,.slice ar t.rows.length cr,int i64 t.gap] 26)=W0 at HK0 HX0 hs0 |-;obtain ⟨b0,b1,b2,b3,b4⟩:=zL HX0.out;have KM:=O (z4D ac ar cc cr t width _ (HT0.out.kept HK0.out).1 (HT0.out.kept HK0.out).2)
 cases hmay:(zF t && zM width 0 300) with
 | false =>
  have HW:Hid (zH t width=[]):=(by rw [Hid,zH,if_neg (by rw [hmay];simp)]);rw [hmay] at KM;clear hmay;go_wp2_with fail
  refine KM.out.mono ?_;rintro e w2 ⟨rfl,hb2⟩;have HK2:=O (zi HK0.out hb2);clear hb2 KM b0 b1 b2 b3 b4;go_wp2
  try rw [Exit.noGoto_ret]
  go_ret;exact ⟨_,rfl,by rw [HW.out];exact .inl ⟨rfl,rfl⟩,HK2.out⟩
 | true =>
  have HW:Hid (zH t width=z7b t (z08 t width)):=(by rw [Hid,zH,if_pos hmay]);rw [hmay] at KM;have HLT:Hid (z5a t width=z0V t (z08 t width) (Z t).cells):=(by rw [Hid,z5a,if_pos hmay]);rw [Bool.and_eq_true] at hmay;obtain ⟨htk,hin⟩:=hmay;have h40:=ziF hD;have hR8:=zfq hD htk;have HGr:=O (zfo htk);have HGc:=O (zfp hD htk);have HGm:=O (zj5 hD htk);have HGk:=O (z73 hD);have HLl:=O (z3x t (z08 t width) (Z t).cells);have HLa:=O (zck t (z08 t width) (Z t).cells);have HRc:=O (zj6 t (z08 t width) (Z t).cells);have KC:=O (λW (h:TA W z ac ar cc cr t)=>zdy ac ar cc cr t hD width W h.1 h.2);have KG:=O (λW (h:TA W z ac ar cc cr t)=>z6C ac ar cc cr t hD W h.1 h.2);rw [HLT.out] at KC;unfold z7b at HW;generalize z0V t (z08 t width) (Z t).cells=ls at KC HW HLl HLa HRc;obtain ⟨R,hRe⟩:∃ R:Nat,t.rows.length=R:=⟨_,rfl⟩;rw [hRe] at HGr HGc hR8 HW;rw [HGr.out] at KG;have hmk:=z5I R (by omega);clear hD htk hin HLT HGr hRe;go_wp2_with fail
  refine KM.out.mono ?_;rintro e w2 ⟨rfl,hb2⟩;have HX2:=O ((hb2.block w.heap.size (by omega)).trans HX0.out);have HK2:=O (zi HK0.out hb2);have hz2':w.heap.size < w2.heap.size:=(by have:=hb2.size;omega);clear hb2 KM b0 b1 b2 b3 b4 HX0 HK0;obtain ⟨b0,b1,b2,b3,b4⟩:=zL HX2.out;go_wp2_with fail
  refine (KG.out _ (HT0.out.kept HK2.out)).mono ?_;rintro e w3 ⟨vg,rfl,hO3,hb3⟩;obtain ⟨ag,cg,rfl⟩:=z5L hO3;have HG3:=O (hO3.at HGk.out);have HX3:=O ((hb3.block w.heap.size hz2').trans HX2.out);have HK3:=O (zi HK2.out hb3);have hz3:w.heap.size < w3.heap.size:=(by have:=hb3.size;omega);clear hb3 hO3 b0 b1 b2 b3 b4 HX2 HK2 KG;go_upto_region 4 with fail
  have HB4:=ze (Below.refl w3.heap.size w3) (.cells #[int i64 (R:Int),int i64 (Z t).cols,.slice ag (Z t).cells.length cg] 38);have HG4:=O (HG3.out.kept HB4);have HX4:=O ((HB4.block w.heap.size hz3).trans HX3.out);have HK4:=O (zi HK3.out HB4);have HY4:=O (zj w3 (.cells #[int i64 (R:Int),int i64 (Z t).cols,.slice ag (Z t).cells.length cg] 38));have hz4:w3.heap.size < (w3.alloc (.cells #[int i64 (R:Int),int i64 (Z t).cols,.slice ag (Z t).cells.length cg] 38)).heap.size:=(by simp);clear HB4 HG3 HX3 HK3;generalize w3.alloc (.cells #[int i64 (R:Int),int i64 (Z t).cols,.slice ag (Z t).cells.length cg] 38)=W4 at HG4 HX4 HK4 HY4 hz4 |-;generalize w3.heap.size=gb at HY4 hz3 hz4 |-;obtain ⟨b0,b1,b2,b3,b4⟩:=zL HX4.out;go_wp2_with fail
  refine (KC.out _ (HT0.out.kept HK4.out)).mono ?_;rintro e W5 ⟨v5,rfl,hL5,hb5⟩;obtain ⟨al,cl,rfl,_⟩:=At.form hL5;rw [HLl.out] at hL5 |-;have HL5:=O hL5;have HG5:=O (HG4.out.kept hb5);have HK5:=O (zi HK4.out hb5);have HY5:=O ((hb5.block gb hz4).trans HY4.out);have hz5:gb < W5.heap.size:=(by have:=hb5.size;omega);clear hb5 hL5 b0 b1 b2 b3 b4 HX4 HK4 HG4 HY4 KC HT0 hz2';have y0:W5.cell? ⟨gb,0,none⟩=some (int i64 (R:Int)):=zf HY5.out;have HH:Hid (HrP W5 R (z0i (rcs (Z t).cells ls) 0 ++ z02 (R - 0)) (W5.alloc (.cells (z1l R) 3))):=⟨ze bR _,z4n W5 R (by omega),by simp⟩;have HRl:=O (zaT HLl.out);have HRg:=O (λk (hk:k < (Z t).cells.length)=>z8O HLl.out hk)
  have HRp:Hid (∀ j,j < (Z t).cells.length->∀ c,(rcs (Z t).cells ls)[j]?=some c->c.1=((Z t).cells.getD j dG).row.toNat/\c.2.1=((Z t).cells.getD j dG).rows.toNat):=λj hj c hc=>by
   rw [z8O HLl.out hj] at hc;obtain rfl:=Option.some.inj hc;exact ⟨rfl,rfl⟩
  generalize hcs:rcs (Z t).cells ls=cs at HRl HRg HRp HRc HW HH;clear hcs;go_wp2_with fail
  go_step3
  go_wp2_with fail
  go_loopw [25] (λs W=>∃ r:Nat,s=int i64 r/\r<=R/\Hid (HrP W5 R (z0i cs r ++ z02 (R - r)) W)) (λs _=>R - (intOf s).toNat)
  case atStart=>exact ⟨0,rfl,nZ,HH⟩
  case round =>
   clear HH y0 hmk;obtain ⟨r,rfl,hr,HH⟩:=hrel;by_cases hlt:r < R
   case neg =>
    obtain rfl:r=R:=by omega
    have HF:=HH;rw [Nat.sub_self,show z02 0=[] from rfl,List.append_nil] at HF;have HK:=O (HK5.out.trans (HF.out.1.mono (by omega)));go_wp2;rw [Exit.noGoto_ret];go_ret;exact ⟨_,rfl,by rw [HW.out];exact HF.out.2.1.base (by omega) HF.out.2.2,HK.out⟩
   rw [zd2 cs hlt] at HH;have Y:=O ((HH.out.1.block gb hz5).trans HY5.out);have q2:wr.cell? ⟨gb,2,none⟩=some (.slice ag (Z t).cells.length cg):=zf Y.out;go_wp2_with fail
   go_loopw [31] (λs W=>∃ k:Nat,s=int i64 k/\k<=(Z t).cells.length/\Hid (HrP W5 R (hsL cs R r k) W)) (λs _=>(Z t).cells.length - (intOf s).toNat)
   case atStart=>exact ⟨0,rfl,nZ,HH⟩
   case round=>as_aux_lemma =>
    clear HH q2 Y;obtain ⟨k,rfl,hk,HH⟩:=hrel;by_cases hkl:k < (Z t).cells.length
    case neg =>
     obtain rfl:k=(Z t).cells.length:=by omega
     rw [<-HRl.out,zaU] at HH;go_wp2;go_roundw
     case rel=>exact ⟨r+1,by go_num,by omega,HH⟩
     case measure=>simp [intOf];omega
    obtain ⟨b,off,cap',e',hc1,hc2,hbl,hx,hxo⟩:=At.get (HG5.out.kept HH.out.1) hkl;simp only [Value.slice.injEq,true_and] at e';obtain ⟨rfl,rfl⟩:=e';unfold maxLen at hc2;obtain ⟨a,m,e1,e2,h1,h2⟩:=HGc.out k hkl;have HCv:Hid (cs[k]?=some (a,m,((ls.getD k []).length:Int))):=(by rw [Hid,HRg.out k hkl,zd1,e1,e2,Int.toNat_natCast,Int.toNat_natCast])
    have HLt:Hid (r < a->hsL cs R r k=z0i cs (r+1) ++ z02 (R - (r+1))):=λhra=>by
     rw [<-zaU];refine zjL (λj hkj hj c hc=>?_);rw [HRl.out] at hj;obtain ⟨c1,c2⟩:=HRp.out j hj c hc;obtain ⟨aj,mj,f1,f2,f3,f4⟩:=HGc.out j hj;have hmj:=HGm.out k j hkj hj;rw [c1,c2];omega
    obtain ⟨x0,x1,x2,x3,x4⟩:=hx;rw [e1] at x0;rw [e2] at x2;have HXe:Hid (((Z t).cells.getD k dG).row=a/\((Z t).cells.getD k dG).rows=m):=⟨e1,e2⟩;generalize (Z t).cells.getD k dG=x at x0 x1 x2 x3 x4 hxo HXe;clear e1 e2;by_cases hra:r < a
    ·have hrb:((r:Int) < (a:Int)):=(by omega);have HL1:=O (HLt.out hra);rw [HL1.out] at HH;clear HLt HL1 hra;go_wp2;exact ⟨⟨r+1,by go_num,by omega,HH.out.kept (ze bR _)⟩,by simp [intOf];omega⟩
    have hrn:¬ ((r:Int) < (a:Int)):=(by omega);clear HLt;by_cases hms:a+m=r+1
    case neg =>
     have hmb:((a:Int)+(m:Int) - 1 == (r:Int))=false:=(by simp;omega);have HS:=O (zd4 (R:=R) HCv.out hms);clear hms hra;go_wp2;go_roundw
     case rel=>exact ⟨k+1,by go_num,by omega,by rw [HS.out];exact HH.out.kept (ze bR _)⟩
     case measure=>simp [intOf];omega
    have hmb:((a:Int)+(m:Int) - 1 == (r:Int))=true:=(by simp;omega);have HS:=O (zd5 (R:=R) HCv.out hms);have hcb:=z6I (by omega) HRc.out r k;have hsp:=zeJ HRc.out (r:=r) (by omega) a;have HHi:=O (zjK HRc.out (R:=R) (k:=k) (by omega) hlt HXe.out.1 HXe.out.2 h1 hms);have hlen:=z8P cs k hlt;have hm1:=HLa.out k hkl;go_upto_region 14 with fail
    have HH4:=O (HH.out.kept (ze bR (.cells #[int i64 (a:Int),int i64 x.col,int i64 (m:Int),int i64 x.cols,int i64 x.ins] 51)));have HC4:=zj wr (.cells #[int i64 (a:Int),int i64 x.col,int i64 (m:Int),int i64 x.cols,int i64 x.ins] 51);have hcbw:wr.heap.size < (wr.alloc (.cells #[int i64 (a:Int),int i64 x.col,int i64 (m:Int),int i64 x.cols,int i64 x.ins] 51)).heap.size:=(by simp);generalize wr.alloc (.cells #[int i64 (a:Int),int i64 x.col,int i64 (m:Int),int i64 x.cols,int i64 x.ins] 51)=W6 at HH4 HC4 hcbw |-;generalize wr.heap.size=cb at HC4 hcbw hbl |-;clear HH x0 x1 x2 x3 x4 hbl hmb hrn hra;obtain ⟨bl,offl,cl',ul,el,hl1,hl2,hlb,hlx,hls⟩:=(HL5.out.kept HH4.out.1).get (i:=k) (by rw [HLl.out];exact hkl);rw [HLl.out] at el hl1;simp only [Value.slice.injEq,true_and] at el;obtain ⟨rfl,rfl⟩:=el;obtain ⟨au,cu,rfl,_⟩:=At.form hls;unfold maxLen at hl2;obtain ⟨g3,cap3,eg3,hBg3,hgD3,hgw3,hc13,hc23,hx3,hf3⟩:=HH4.out.2.1.get (i:=r) (by omega);rw [hlen] at eg3;simp only [Value.slice.injEq,Option.some.injEq,Addr.mk.injEq,and_true,true_and] at eg3;obtain ⟨rfl,rfl⟩:=eg3;rw [zeE] at hx3;have hne:=z0H W6;have m0:=zm (a:=⟨cb,0,none⟩) hcbw (zf (p:=0) HC4);have m1:=zm (a:=⟨cb,1,none⟩) hcbw (zf (p:=1) HC4);have m2:=zm (a:=⟨cb,2,none⟩) hcbw (zf (p:=2) HC4);have m3:=zm (a:=⟨cb,3,none⟩) hcbw (zf (p:=3) HC4);have m4:=zm (a:=⟨cb,4,none⟩) hcbw (zf (p:=4) HC4);have m5:=zm (a:=⟨W5.heap.size,r,none⟩) hgw3 hx3;have m6:=zm (a:=⟨bl,offl+k,none⟩) hlb hlx;have KH0:=O (λ(p:BW W6)=>z4z (ze2 (.slice (some ⟨W5.heap.size,0,none⟩) R R) (hsL cs R r k) (by omega) x hxo p.u (HH4.out.2.1.at.kept p.h)));simp only [HXe.out.1,HXe.out.2,HHi.out] at KH0;have HN:=O (λW (h:Below W6.heap.size W6 W)=>HH4.out.set (r:=r) (by rw [hlen];exact hlt) h (max (z3h cs r k) (((ls.getD k []).length:Int) - ((z0i cs r).sum - zK (z0i cs r) a))));have HSt:=O HS.out.symm;simp only [HSt.out] at HN;clear HS HSt hx3 hls hf3 HCv HXe HHi hc13 hc23 hgD3 hBg3 HC4 hxo;generalize (ls.getD k []).length=n at m6 HN hm1;generalize (z0i cs r).sum - zK (z0i cs r) a=Y at KH0 HN hsp;generalize z3h cs r k=y at hcb m5 HN KH0;have HAL:=O (zir y (n:Int) Y);have t3:(r:Int) < (R:Int):=(by omega);have t4:(k:Int) < ((Z t).cells.length:Int):=(by omega);refine z1g 16 hmx (by rfl) (by rfl) (by kernel_rfl) (by kernel_rfl) ?_;simp only [List.take_succ_cons,List.take_zero];repeat (go_big_quiet_step (first | (go_at_call 58;refine KH0.out _)))
    refine wpQuiet_nil ?_;intro W7 hw';obtain ⟨⟨Wx,hW7⟩,hw''⟩:=hw';subst hw'';have HN7:=O (HN.out _ hW7);rw [<-HAL.out] at HN7;obtain ⟨g5,cap5,e5,_,_,hgw5,_,_,hx5,hf5⟩:=(HH4.out.2.1.kept (λj h0 _ _=>hW7.block j h0)).get (i:=r) (by rw [hlen];exact hlt);simp only [Value.slice.injEq,Option.some.injEq,Addr.mk.injEq,and_true] at e5;have eg:=e5.1;clear e5;subst eg;clear m0 m1 m2 m3 m4 m5 m6 HN hne KH0 hW7 HH4;rw [if_pos (by rfl)];go_simp;go_wp2;go_roundw
    case rel=>exact ⟨k+1,by go_num,by omega,HN7⟩
    case measure=>simp [intOf];omega
end
section
open Go.RowKit
theorem zfy {cs:List z0O} (hc:∀ c ∈ cs,c.2.2<=1000) (R:Nat):∀ x ∈ z0i cs R,0<=x/\x<=1000:=λx hx=>⟨z5p cs R x hx,z7u (by omega) cs hc R x hx⟩
theorem zho {t:T} {x:Int} (hp:(zH t x).length ≠ 0):zF t=true/\(0<=x/\x<=300)/\zH t x=z7b t (z08 t x)/\z5a t x=z0V t (z08 t x) (Z t).cells:=by
 unfold zH at hp;unfold zH z5a;by_cases h:(zF t && zM x 0 300)=true
 ·rw [if_pos h,if_pos h];rw [Bool.and_eq_true] at h;exact ⟨h.1,by simpa [zM] using h.2,rfl,rfl⟩
 ·rw [if_neg h] at hp;exact absurd rfl hp
structure HgF (t:T) (RL:List Int) (LL:List (List ByteArray)):Prop where
 len:RL.length=t.rows.length
 lln:LL.length=(Z t).cells.length
 hold:∀ k,k < (Z t).cells.length->¬ z7G RL ((Z t).cells.getD k dG) < ((LL.getD k []).length:Int)
 need:∀ r,r < t.rows.length->RL.getD r 0=0\/∃ k,k < (Z t).cells.length/\(r:Int)=((Z t).cells.getD k dG).row+((Z t).cells.getD k dG).rows - 1/\z7G RL ((Z t).cells.getD k dG)=((LL.getD k []).length:Int)
 small:∀ k,k < (Z t).cells.length->(0<=((Z t).cells.getD k dG).row/\((Z t).cells.getD k dG).row<=8)/\1<=((Z t).cells.getD k dG).rows/\((Z t).cells.getD k dG).rows<=8
def zkT (P:Nat->Bool) (b:Bool):Nat->Bool
 | 0=>b
 | k+1=>zkT P b k || P k
def z0Q (t:T) (width:Int) (high:List Int):List (List zk):=if z27 t width high=true then z3c (high.map (· - (zu (zX t (zH t width))+zu (zY t (zH t width))))) (z0B t (zH t width)) else []
theorem z65 {t:T} (hok:zF t=true) {hs:List Int} (hb:∀ x ∈ hs,0<=x/\x<=1000):(z0B t hs).length<=9000:=by
 have h1:=z89 (t:=t) hb (z0l (Z t).cells t.rows.length) (zQ (Z t).cells t.rows.length).length;have h2:=z3e (Z t).cells t.rows.length;have h3:=(z0R hok).1.2;unfold z0B;omega
theorem z6f {t:T} {x:Int}:∀ y ∈ zH t x,0<=y/\y<=1000:=by
 intro y hy;have hne:(zH t x).length ≠ 0:=λh=>by rw [List.eq_nil_of_length_eq_zero h] at hy;cases hy
 obtain ⟨hok,_,e,_⟩:=zho hne;rw [e] at hy;exact zfy (zj6 t (z08 t x) (Z t).cells) t.rows.length y hy
theorem ziR {t:T} (hD:z0g t) (hok:zF t=true) {hs:List Int} (hb:∀ x ∈ hs,0<=x/\x<=1000) (j:Nat):(∀ k,k<=((z0B t hs).drop j).length->z3t ((((z0B t hs).drop j).take k).foldl z0b [])/\((((z0B t hs).drop j).take k).foldl z0b []).length<=50000)/\∀ p ∈ (z0B t hs).drop j,z3t p/\p.length<=50000:=by
 refine ⟨λk _=>?_,λp hp=>zgK hD hok hb (List.mem_of_mem_drop hp)⟩;have e:z0B t hs=(z0B t hs).take j ++ ((z0B t hs).drop j).take k ++ ((z0B t hs).drop j).drop k:=(by rw [List.append_assoc,List.take_append_drop,List.take_append_drop]);have h:=z4h hD hok hb e;exact ⟨h.1,h.2.1⟩
def zks:Value->Nat
 | .slice _ n _=>n
 | _=>0
def PJ9 (bb B z:Nat) (w0:World) (vh:Value) (bes:Int) (rm:List Int) (pcs:List (List zk)) (vl:Value) (W:World):Prop :=
 ∃ (j:Nat) (pgs:List (List zk)) (us:List Value) (a:Option Addr) (c:Nat),(∀ W',BF bb B W W'->z1p W' z vl (pcs.drop j))/\W.heap[bb]?=some (.cells #[.slice a pgs.length c,vh,int i64 bes] 68)/\W.ownsRow B 41 1 (.slice a pgs.length c) pgs.length us/\zO W B us pgs/\BF bb B w0 W /\
  z3c rm pcs=z5V rm pgs (pcs.drop j)/\pgs.length<=j+1/\j<=pcs.length
structure PI9 (w:World) (z:Nat) (ac ar:Option Addr) (cc cr:Nat) (t:T) (hs:List Int) (vr:Value) (W:World):Prop where
 below:Below w.heap.size w W
 box:W.heap[w.heap.size]?=some (.cells #[.slice ac t.cols.length cc,int i64 t.head,int i64 t.foot,.slice ar t.rows.length cr,int i64 t.gap] 26)
 ta:TA W z ac ar cc cr t
 hts:zA W vr hs
theorem PI9.kept {w:World} {z:Nat} {ac ar:Option Addr} {cc cr:Nat} {t:T} {hs:List Int} {vr:Value} {W W':World} (h:PI9 w z ac ar cc cr t hs vr W) (k:Below W.heap.size W W'):PI9 w z ac ar cc cr t hs vr W' :=
 ⟨zi h.below k,(k.block _ (bL h.box)).trans h.box,h.ta.kept k,h.hts.kept k⟩
structure PiJ (w:World) (z:Nat) (ac ar:Option Addr) (cc cr:Nat) (t:T) (hs high:List Int) (vr:Value) (ah:Option Addr) (ch:Nat) (W3:World) (L:Nat->Bool) (W:World) (v8 v18 v19 v20 v21 v22 v23 v24 v25 v26 v27 v28 v29:Value):Prop where
 f0:L 0=true->v18=.slice ah high.length ch
 f1:L 1=true->v19=.agg #[.slice ac t.cols.length cc,int i64 t.head,int i64 t.foot,.slice ar t.rows.length cr,int i64 t.gap]
 f2:L 2=true->v20=vr
 f3:L 3=true->zx W W3.heap.size v21 (zX t hs)
 f4:L 4=true->v22=int i64 (zu (zX t hs))
 f5:L 5=true->v23=.agg #[.slice ac t.cols.length cc,int i64 t.head,int i64 t.foot,.slice ar t.rows.length cr,int i64 t.gap]
 f6:L 6=true->v24=vr
 f7:L 7=true->zx W W3.heap.size v25 (zY t hs)
 f8:L 8=true->v26=int i64 (zu (zY t hs))
 f9:L 9=true->v27=int i64 (zu (zX t hs)+zu (zY t hs))
 f10:L 10=true->v28=.agg #[.slice none 0 0,.slice ah high.length ch,int i64 (zu (zX t hs)+zu (zY t hs))]
 f11:L 11=true->∃ g,v29=.pointer (some ⟨g,0,none⟩)/\W3.heap.size<=g/\W.heap[g]?=some (.cells #[.slice none 0 0,.slice ah high.length ch,int i64 (zu (zX t hs)+zu (zY t hs))] 68)
 f12:L 12=true->∃ g,v8=.pointer (some ⟨g,0,none⟩)/\W3.heap.size<=g/\W.heap[g]?=some (.cells #[.slice none 0 0,.slice ah high.length ch,int i64 (zu (zX t hs)+zu (zY t hs))] 68)/\Below W3.heap.size W3 W
 b:L 12=false->Below W3.heap.size W3 W
theorem zec (ac ar:Option Addr) (cc cr:Nat) (t:T) (hD:z0g t) (width:Int) (vh:Value) (high:List Int) (w:World) {z:Nat} (hc:z09 w z (.slice ac t.cols.length cc) t.cols) (hr:z05 w z (.slice ar t.rows.length cr) t.rows) (hh:zA w vh high) :
  Calls prog 15 #[.agg #[.slice ac t.cols.length cc,int i64 t.head,int i64 t.foot,.slice ar t.rows.length cr,int i64 t.gap],int i64 width,vh] w λe w'=>∃ v us,e=.returned v/\w'.ownsRow w.heap.size 41 1 v us.length us/\zO w' w.heap.size us (z0Q t width high)/\Below w.heap.size w w':=by
 have hmx:prog.follows .mixedOrders=true:=(by kernel_rfl);obtain ⟨ah,ch,rfl,_⟩:=hh.form;have HK0:=O (ze (Below.refl w.heap.size w) (.cells #[.slice ac t.cols.length cc,int i64 t.head,int i64 t.foot,.slice ar t.rows.length cr,int i64 t.gap] 26));have HX0:=O (zj w (.cells #[.slice ac t.cols.length cc,int i64 t.head,int i64 t.foot,.slice ar t.rows.length cr,int i64 t.gap] 26));have HT0:Hid (TA w z ac ar cc cr t):=⟨hc,hr⟩;have HVH:=O (λW (k:Below w.heap.size w W)=>hh.kept k);have hs0:(w.alloc (.cells #[.slice ac t.cols.length cc,int i64 t.head,int i64 t.foot,.slice ar t.rows.length cr,int i64 t.gap] 26)).heap.size=w.heap.size+1:=(by simp);have KO:=O (λW (k:Below w.heap.size w W)=>zhq ac ar cc cr t width _ high W (HT0.out.kept k).1 (HT0.out.kept k).2 (HVH.out W k));clear hc hr hh;go_enter func15,ntmps15;go_upto_region 1 with fail
 generalize w.alloc (.cells #[.slice ac t.cols.length cc,int i64 t.head,int i64 t.foot,.slice ar t.rows.length cr,int i64 t.gap] 26)=W0 at HK0 HX0 hs0 |-;obtain ⟨b0,b1,b2,b3,b4⟩:=zL HX0.out
 cases hok:z27 t width high with
 | false =>
  rw [hok] at KO;have HF:Hid (z0Q t width high=[]):=O (by unfold z0Q;rw [if_neg (by rw [hok];simp)]);clear hok;go_wp2_with fail
  refine (KO.out _ HK0.out).mono ?_;rintro e w1 ⟨rfl,hb1⟩;have HK1:=O (zi HK0.out hb1);clear hb1 b0 b1 b2 b3 b4;go_wp2;go_ret;exact ⟨_,[],rfl,⟨rfl,.inl ⟨rfl,rfl⟩⟩,by rw [HF.out];exact zO.nil _ _,HK1.out⟩
 | true =>
  rw [hok] at KO;have HF:Hid (z0Q t width high=z3c (high.map (· - (zu (zX t (zH t width))+zu (zY t (zH t width))))) (z0B t (zH t width))):=O (by unfold z0Q;rw [if_pos hok]);have hok2:=hok;unfold z27 at hok2;rw [Bool.and_eq_true,Bool.and_eq_true,Bool.and_eq_true] at hok2;obtain ⟨⟨htk,hwd⟩,hln,hhs⟩:=hok2;have hi1:0 < high.length:=(by have h:=of_decide_eq_true hln;omega);have hi2:high.length<=60:=(by have h:=of_decide_eq_true hln;omega);have HHB:Hid (∀ x ∈ high,0<=x/\x<=100):=O (λx hx=>of_decide_eq_true (List.all_eq_true.1 hhs x hx))
  have hRl:(zH t width).length=t.rows.length:=by
   unfold zH z7b;rw [if_pos (by rw [htk,hwd];rfl),z0M]
  have HRb:=O (z6f (t:=t) (x:=width));have hR8:=z0R htk;have KR:=O (λW (h:TA W z ac ar cc cr t)=>z6W ac ar cc cr t hD width W h.1 h.2);generalize zH t width=hs at HF hRl HRb KR;have KH:=O (λ(v:Value) W (h:zA W v hs)=>z9L (.slice ac t.cols.length cc) (.slice ar t.rows.length cr) t htk hs hRl v W h);have KF:=O (λ(v:Value) W (h:zA W v hs)=>z9M (.slice ac t.cols.length cc) (.slice ar t.rows.length cr) t htk hs hRl v W h);have hlh:z3t (zX t hs):=z7l HRb.out (by omega);have hlf:z3t (zY t hs):=z7l HRb.out (by omega);have KA:=O (λ(v:Value) W z (h:z1Y W z v (zX t hs))=>(z4G hlh ▸ z3F v (zX t hs) W h:Calls prog 18 #[v] W λe w'=>e=.returned (int i64 (zu (zX t hs)))/\Below W.heap.size W w'));have KB:=O (λ(v:Value) W z (h:z1Y W z v (zY t hs))=>(z4G hlf ▸ z3F v (zY t hs) W h:Calls prog 18 #[v] W λe w'=>e=.returned (int i64 (zu (zY t hs)))/\Below W.heap.size W w'));have KC:=O (λ(v:Value) W (h:TA W z ac ar cc cr t) (hv:zA W v hs)=>zcJ ac ar cc cr t hD htk hs hRl HRb.out v W h.1 h.2 hv);unfold z3t at hlh hlf;have hwr:IntKind.i64.wrap (zu (zX t hs)+zu (zY t hs))=zu (zX t hs)+zu (zY t hs):=(by rw [IntKind.wrap_i64];omega)
  have hbs:0<=zu (zX t hs)+zu (zY t hs)/\zu (zX t hs)+zu (zY t hs)<=1000000:=by
   have a1:=z3l HRb.out t.head.toNat 0 (by omega);have a2:=z3l HRb.out t.foot.toNat (t.rows.length - t.foot.toNat) (by omega);unfold zX zY;omega
  have HPL:Hid ((z0B t hs).length<=9000):=O (z65 htk HRb.out);clear hok hln hhs hwd hRl;go_wp2_with fail
  refine (KO.out _ HK0.out).mono ?_;rintro e w1 ⟨rfl,hb1⟩;have HX1:=O ((hb1.block w.heap.size (by omega)).trans HX0.out);have HK1:=O (zi HK0.out hb1);have hs1:w.heap.size < w1.heap.size:=(by have:=hb1.size;omega);clear hb1 b0 b1 b2 b3 b4 HX0 HK0 hs0 KO;obtain ⟨b0,b1,b2,b3,b4⟩:=zL HX1.out;go_wp2_with fail
  refine (KR.out _ (HT0.out.kept HK1.out)).mono ?_;rintro e W3 ⟨vr,rfl,hI3,hb3⟩;have HP3:Hid (PI9 w z ac ar cc cr t hs vr W3):=O ⟨zi HK1.out hb3,(hb3.block w.heap.size hs1).trans HX1.out,HT0.out.kept (zi HK1.out hb3),hI3.at⟩;have HWz:Hid (w.heap.size<=W3.heap.size):=O (by have:=hb3.size;omega);clear hI3 hb3 b0 b1 b2 b3 b4 HX1 HK1 KR hs1;go_upto_region 4 with fail
  refine z0n (λL act W=>∃ v8 v18 v19 v20 v21 v22 v23 v24 v25 v26 v27 v28 v29:Value,act=⟨#[.agg #[.slice ac t.cols.length cc,int i64 t.head,int i64 t.foot,.slice ar t.rows.length cr,int i64 t.gap],int i64 width,.slice ah high.length ch,.pointer (some ⟨w.heap.size,0,none⟩),undef,undef,.slice none 0 0,vr,v8,undef,.agg #[.slice ac t.cols.length cc,int i64 t.head,int i64 t.foot,.slice ar t.rows.length cr,int i64 t.gap],int i64 width,.slice ah high.length ch,.bool true,.bool false,.agg #[.slice ac t.cols.length cc,int i64 t.head,int i64 t.foot,.slice ar t.rows.length cr,int i64 t.gap],int i64 width,vr,v18,v19,v20,v21,v22,v23,v24,v25,v26,v27,v28,v29,undef,undef,undef,undef,undef,undef,undef,undef,undef,undef,undef,undef,undef,undef,undef],[]⟩/\PiJ w z ac ar cc cr t hs high vr ah ch W3 L W v8 v18 v19 v20 v21 v22 v23 v24 v25 v26 v27 v28 v29) hmx (by kernel_rfl) ?hs ?hd ?h0
  case h0=>exact e13 ⟨rfl,⟨n0,n0,n0,n0,n0,n0,n0,n0,n0,n0,n0,n0,n0,λ_=>z0X bR⟩⟩
  case hd =>
   intro L act W hJ hall;obtain ⟨v8,v18,v19,v20,v21,v22,v23,v24,v25,v26,v27,v28,v29,ha,J⟩:=hJ;subst ha;obtain ⟨bb,rfl,hbb,hbx,hKB⟩:=J.f12 (hall 12 (by decide));clear J hall;have HP4:=O (HP3.out.kept hKB);have HBX:=O hbx;have hlb:=(bL hbx);have hsz4:=hKB.size;clear hKB hbx KH KF KA KB HP3 hwr;obtain ⟨b0,b1,b2,b3,b4⟩:=zL HP4.out.box;go_wp2_with fail
   refine (KC.out _ _ HP4.out.ta HP4.out.hts).mono ?_;rintro e w5 ⟨vp,up,rfl,hOp,hRp,hb5⟩;have hPp:z1p w5 W.heap.size vp (z0B t hs):=hRp.pss hOp lR lR;have hP5:=HP4.out.kept hb5;have HBX5:=O ((hb5.block bb hlb).trans HBX.out);have hlb5:bb < w5.heap.size:=nL hlb hb5.size;have hw5:w.heap.size<=bb:=nT (HWz.out) hbb;have HB5:=O hP5.below;have HCV:Hid (∀ W',BF bb w5.heap.size w5 W'->Below w.heap.size w5 W'):=O (λW' k=>⟨k.os,k.tape,k.output,k.size,λq hq=>k.block q (by omega) (by omega)⟩);have HV:=O (λW' (k:BF bb w5.heap.size w5 W')=>HVH.out W' (HB5.out.trans (HCV.out W' k)));have HPC:Hid (∀ W',BF bb w5.heap.size w5 W'->z1p W' W.heap.size vp (z0B t hs)):=O (λW' k=>hPp.since ⟨k.size,λq h1 h2=>k.block q h2 (by omega)⟩);obtain ⟨ap,cp,rfl,_⟩:=At.form hPp;clear hOp hRp hb5 hPp hP5 HP4 HBX KC b0 b1 b2 b3 b4 hbb hlb HWz;have HLL:=O (λ(j:Nat)=>ziR hD htk HRb.out j);have HRS:=O (zin (high.map (· - (zu (zX t hs)+zu (zY t hs)))) (z0B t hs));have HRM:=O (λ(pgs left:List (List zk))=>zgF (rm:=high.map (· - (zu (zX t hs)+zu (zY t hs)))) (pgs:=pgs) (left:=left));have hKF1:=zcM bb w5.heap.size W.heap.size none 0 0 (.slice ah high.length ch) (.slice ap (z0B t hs).length cp) high (zu (zX t hs)+zu (zY t hs)) [] [] (z0B t hs) rfl (by omega) (by have:=HPL.out;omega) hi1 hi2 HHB.out hbs (by have:=(HLL.out 0).1;simpa using this) (by have:=(HLL.out 0).2;simpa using this) w5 lR HBX5.out HV.out ⟨rfl,.inl ⟨rfl,rfl⟩⟩ (zO.nil _ _) HPC.out;obtain ⟨j0,hj0,e0,_⟩:=z8e (zN (high.map (· - (zu (zX t hs)+zu (zY t hs)))) 0) (z0B t hs) [];rw [e0] at hKF1 HRS;generalize (z1L (zN (high.map (· - (zu (zX t hs)+zu (zY t hs)))) 0) [] (z0B t hs)).1=pg0 at hKF1 HRS;have KF1:=O hKF1;have HHI:Hid (0 < high.length/\high.length<=60):=O ⟨hi1,hi2⟩;clear hKF1 e0;go_wp2_with fail
   refine KF1.out.mono ?_;rintro e w6 ⟨vl,us,a,c,rfl,hL,hB6,hO6,hR6,hK6⟩;have H6:Hid (PJ9 bb w5.heap.size W.heap.size w5 (.slice ah high.length ch) (zu (zX t hs)+zu (zY t hs)) (high.map (· - (zu (zX t hs)+zu (zY t hs)))) (z0B t hs) vl w6):=O ⟨j0,[pg0],us,a,c,hL,hB6,hO6,hR6,hK6,HRS.out,by simp,hj0⟩;clear hL hB6 hO6 hR6 hK6 KF1 HRS HBX5;obtain ⟨pcs,hpcs⟩:∃ pcs,z0B t hs=pcs:=⟨_,rfl⟩;rw [hpcs] at H6 HPL HPC HLL HF;clear hpcs;generalize zu (zX t hs)+zu (zY t hs)=bes at H6 HRM HF hbs HLL |-;go_wp2_with fail
   go_loopw [9] (λv W'=>Hid (PJ9 bb w5.heap.size W.heap.size w5 (.slice ah high.length ch) bes (high.map (· - bes)) pcs v W')) (λv _=>zks v)
   case atStart=>exact H6
   case round =>
    clear H6;obtain ⟨j,pgs,us2,a2,c2,hL,hB,hO,hR,hK,hE,hn,hj⟩:=Hid.out hrel;obtain ⟨al,cl,rfl,hll⟩:=At.form (hL wr (BF.of_below bR hK.size));have hld:(pcs.drop j).length=pcs.length - j:=List.length_drop;rw [hld] at hL |-;by_cases hz:j=pcs.length
    case pos =>
     have hz2:pcs.length - j=0:=(by omega);rw [hz2] at hL |-;have hd:pcs.drop j=[]:=(by rw [hz,List.drop_length]);rw [hd,zio] at hE;have HE:=O (HF.out.trans hE);have HO:=O (z3O hO (by omega:w.heap.size<=w5.heap.size));have HR:=O (hR.base (by omega:w.heap.size<=w5.heap.size));have HK:=O (HB5.out.trans (HCV.out _ hK));have HUl:=O (hR.1);have g0:wr.cell? ⟨bb,0,none⟩=some (.slice a2 pgs.length c2):=zf hB;clear hL hB hO hR hK hE hn hj hll hld hrel hz hz2 hd;go_wp2;go_ret;exact ⟨_,us2,rfl,by rw [HUl.out];exact HO.out,by rw [HE.out];exact HR.out,HK.out⟩
    have hne:pcs.drop j ≠ []:=λe=>by rw [e,List.length_nil] at hld;omega
    have hpos:(0:Int) < ((pcs.length - j:Nat):Int):=(by omega);have hE2:=hE.trans (HRM.out pgs (pcs.drop j) hne);have hpl:=HPL.out;have hKF:=zcM bb w5.heap.size W.heap.size a2 pgs.length c2 (.slice ah high.length ch) (.slice al (pcs.length - j) cl) high bes us2 pgs (pcs.drop j) rfl (by omega) (by omega) HHI.out.1 HHI.out.2 HHB.out hbs (HLL.out j).1 (HLL.out j).2 wr hK.size hB (λW' k=>HV.out W' (hK.trans k)) hO hR hL
    obtain ⟨q,ql,eq⟩:∃ q ql,pcs.drop j=q :: ql:=by
     cases hx:pcs.drop j with
     | nil=>exact absurd hx hne
     | cons q ql=>exact ⟨q,ql,rfl⟩
    obtain ⟨j2,hj2,hj3,e2⟩:=zgG (room:=zN (high.map (· - bes)) pgs.length) (p:=q) (ps:=ql);rw [<-eq] at e2 hj3;rw [hld] at hj3;rw [List.drop_drop] at e2;rw [e2] at hKF hE2;generalize (z1L (zN (high.map (· - bes)) pgs.length) [] (pcs.drop j)).1=pg1 at hKF hE2;have KF:=O hKF;have HE:=O hE2;have HKr:=O hK;have hn2:pgs.length<=10000:=(by omega);clear hL hB hO hR hK hE hE2 hKF e2 eq hll hld hrel hne;go_wp2_with fail
    refine KF.out.mono ?_;rintro e w7 ⟨vl2,us3,a3,c3,rfl,hL3,hB3,hO3,hR3,hK3⟩;have H7:Hid (PJ9 bb w5.heap.size W.heap.size w5 (.slice ah high.length ch) bes (high.map (· - bes)) pcs vl2 w7):=O ⟨j+j2,pgs ++ [pg1],us3,a3,c3,hL3,by rw [List.length_append];exact hB3,by rw [List.length_append];exact hO3,hR3,HKr.out.trans hK3,HE.out,by rw [List.length_append];simp;omega,by omega⟩;obtain ⟨al3,cl3,e3,_⟩:=At.form (hL3 w7 (BF.of_below bR (nT HKr.out.size hK3.size)));rw [List.length_drop] at e3;subst e3;clear hL3 hB3 hO3 hR3 hK3 KF;go_wp2;go_roundw
    case rel=>exact H7
    case measure=>simp [zks];omega
  case hs =>
   intro L act W i o hJ hcl ho hLi haft K hK;obtain ⟨v8,v18,v19,v20,v21,v22,v23,v24,v25,v26,v27,v28,v29,ha,J⟩:=hJ;subst ha
   have hi':i < 13:=by
    have:=(bL ho)
    simpa using this
   rcases (by omega:i=0\/i=1\/i=2\/i=3\/i=4\/i=5\/i=6\/i=7\/i=8\/i=9\/i=10\/i=11\/i=12) with rfl | rfl | rfl | rfl | rfl | rfl | rfl | rfl | rfl | rfl | rfl | rfl | rfl
   all_goals
    simp only [List.getElem?_toArray,List.getElem?_cons_zero,List.getElem?_cons_succ,Option.some.injEq] at ho;subst ho;clear hi'
   ·have hN:=Pl hcl 12 [11,10] hLi;have hB:=J.b hN;go_simp;exact hK _ _ (e13 ⟨rfl,⟨λ_=>rfl,V J.f1,V J.f2,V J.f3,V J.f4,V J.f5,V J.f6,V J.f7,V J.f8,V J.f9,ug (Qh hcl 10 0 hLi),ug (Pl hcl 11 [10] hLi),ug (Pl hcl 12 [11,10] hLi),λ_=>hB⟩⟩)
   ·have hN:=Pl hcl 12 [11,10,9,4,3] hLi;have hB:=J.b hN;obtain ⟨b0,b1,b2,b3,b4⟩:=zL (HP3.out.kept hB).box;go_simp;exact hK _ _ (e13 ⟨rfl,⟨V J.f0,λ_=>rfl,V J.f2,ug (Qh hcl 3 1 hLi),ug (Pl hcl 4 [3] hLi),V J.f5,V J.f6,V J.f7,V J.f8,ug (Pl hcl 9 [4,3] hLi),ug (Pl hcl 10 [9,4,3] hLi),ug (Pl hcl 11 [10,9,4,3] hLi),ug (Pl hcl 12 [11,10,9,4,3] hLi),λ_=>hB⟩⟩)
   ·have hN:=Pl hcl 12 [11,10,9,4,3] hLi;have hB:=J.b hN;go_simp;exact hK _ _ (e13 ⟨rfl,⟨V J.f0,V J.f1,λ_=>rfl,ug (Qh hcl 3 2 hLi),ug (Pl hcl 4 [3] hLi),V J.f5,V J.f6,V J.f7,V J.f8,ug (Pl hcl 9 [4,3] hLi),ug (Pl hcl 10 [9,4,3] hLi),ug (Pl hcl 11 [10,9,4,3] hLi),ug (Pl hcl 12 [11,10,9,4,3] hLi),λ_=>hB⟩⟩)
   ·have hN:=Pl hcl 12 [11,10,9,4] hLi;have hB:=J.b hN;obtain rfl:=J.f1 (Fa haft 1);obtain rfl:=J.f2 (Fa haft 2);have hw:=(HP3.out.kept hB).hts;have hsz:=hB.size;go_simp;go_wp2_with (go_at_call 31;refine (KH.out _ _ hw).mono ?_;rintro e W2 ⟨u,rfl,hU,hb⟩)
    exact e13 ⟨rfl,⟨V J.f0,V J.f1,V J.f2,λ_=>hU.base hsz,ug (Qh hcl 4 3 hLi),V J.f5,V J.f6,λh=>((J.f7 (un h))).kept hb,V J.f8,ug (Pl hcl 9 [4] hLi),ug (Pl hcl 10 [9,4] hLi),ug (Pl hcl 11 [10,9,4] hLi),ug (Pl hcl 12 [11,10,9,4] hLi),λ_=>zi hB hb⟩⟩
   ·have hN:=Pl hcl 12 [11,10,9] hLi;have hB:=J.b hN;have hU:=J.f3 (Fa haft 3);go_simp;go_wp2_with (go_at_call 18;refine (KA.out _ _ _ hU.at).mono ?_;rintro e W2 ⟨rfl,hb⟩)
    exact e13 ⟨rfl,⟨V J.f0,V J.f1,V J.f2,λh=>((J.f3 (un h))).kept hb,λ_=>rfl,V J.f5,V J.f6,λh=>((J.f7 (un h))).kept hb,V J.f8,ug (Qh hcl 9 4 hLi),ug (Pl hcl 10 [9] hLi),ug (Pl hcl 11 [10,9] hLi),ug (Pl hcl 12 [11,10,9] hLi),λ_=>zi hB hb⟩⟩
   ·have hN:=Pl hcl 12 [11,10,9,8,7] hLi;have hB:=J.b hN;obtain ⟨b0,b1,b2,b3,b4⟩:=zL (HP3.out.kept hB).box;go_simp;exact hK _ _ (e13 ⟨rfl,⟨V J.f0,V J.f1,V J.f2,V J.f3,V J.f4,λ_=>rfl,V J.f6,ug (Qh hcl 7 5 hLi),ug (Pl hcl 8 [7] hLi),ug (Pl hcl 9 [8,7] hLi),ug (Pl hcl 10 [9,8,7] hLi),ug (Pl hcl 11 [10,9,8,7] hLi),ug (Pl hcl 12 [11,10,9,8,7] hLi),λ_=>hB⟩⟩)
   ·have hN:=Pl hcl 12 [11,10,9,8,7] hLi;have hB:=J.b hN;go_simp;exact hK _ _ (e13 ⟨rfl,⟨V J.f0,V J.f1,V J.f2,V J.f3,V J.f4,V J.f5,λ_=>rfl,ug (Qh hcl 7 6 hLi),ug (Pl hcl 8 [7] hLi),ug (Pl hcl 9 [8,7] hLi),ug (Pl hcl 10 [9,8,7] hLi),ug (Pl hcl 11 [10,9,8,7] hLi),ug (Pl hcl 12 [11,10,9,8,7] hLi),λ_=>hB⟩⟩)
   ·have hN:=Pl hcl 12 [11,10,9,8] hLi;have hB:=J.b hN;obtain rfl:=J.f5 (Fa haft 5);obtain rfl:=J.f6 (Fa haft 6);have hw:=(HP3.out.kept hB).hts;have hsz:=hB.size;go_simp;go_wp2_with (go_at_call 32;refine (KF.out _ _ hw).mono ?_;rintro e W2 ⟨u,rfl,hU,hb⟩)
    exact e13 ⟨rfl,⟨V J.f0,V J.f1,V J.f2,λh=>((J.f3 (un h))).kept hb,V J.f4,V J.f5,V J.f6,λ_=>hU.base hsz,ug (Qh hcl 8 7 hLi),ug (Pl hcl 9 [8] hLi),ug (Pl hcl 10 [9,8] hLi),ug (Pl hcl 11 [10,9,8] hLi),ug (Pl hcl 12 [11,10,9,8] hLi),λ_=>zi hB hb⟩⟩
   ·have hN:=Pl hcl 12 [11,10,9] hLi;have hB:=J.b hN;have hU:=J.f7 (Fa haft 7);go_simp;go_wp2_with (go_at_call 18;refine (KB.out _ _ _ hU.at).mono ?_;rintro e W2 ⟨rfl,hb⟩)
    exact e13 ⟨rfl,⟨V J.f0,V J.f1,V J.f2,λh=>((J.f3 (un h))).kept hb,V J.f4,V J.f5,V J.f6,λh=>((J.f7 (un h))).kept hb,λ_=>rfl,ug (Qh hcl 9 8 hLi),ug (Pl hcl 10 [9] hLi),ug (Pl hcl 11 [10,9] hLi),ug (Pl hcl 12 [11,10,9] hLi),λ_=>zi hB hb⟩⟩
   ·have hN:=Pl hcl 12 [11,10] hLi;have hB:=J.b hN;obtain rfl:=J.f4 (Fa haft 4);obtain rfl:=J.f8 (Fa haft 8);go_simp;exact hK _ _ (e13 ⟨rfl,⟨V J.f0,V J.f1,V J.f2,V J.f3,V J.f4,V J.f5,V J.f6,V J.f7,V J.f8,λ_=>rfl,ug (Qh hcl 10 9 hLi),ug (Pl hcl 11 [10] hLi),ug (Pl hcl 12 [11,10] hLi),λ_=>hB⟩⟩)
   ·have hN:=Pl hcl 12 [11] hLi;have hB:=J.b hN;obtain rfl:=J.f0 (Fa haft 0);obtain rfl:=J.f9 (Fa haft 9);go_simp;exact hK _ _ (e13 ⟨rfl,⟨V J.f0,V J.f1,V J.f2,V J.f3,V J.f4,V J.f5,V J.f6,V J.f7,V J.f8,V J.f9,λ_=>rfl,ug (Qh hcl 11 10 hLi),ug (Pl hcl 12 [11] hLi),λ_=>hB⟩⟩)
   ·have hN:=Qh hcl 12 11 hLi;have hB:=J.b hN;obtain rfl:=J.f10 (Fa haft 10);have hsz:=hB.size;go_simp;exact hK _ _ (e13 ⟨rfl,⟨V J.f0,V J.f1,V J.f2,λh=>((J.f3 (un h))).kept (ze bR _),V J.f4,V J.f5,V J.f6,λh=>((J.f7 (un h))).kept (ze bR _),V J.f8,V J.f9,V J.f10,λ_=>⟨_,rfl,hsz,zj _ _⟩,ug (Qh hcl 12 11 hLi),λ_=>ze hB _⟩⟩)
   ·have hN:=hLi;have hB:=J.b hN;obtain ⟨g,rfl,hg,hx⟩:=J.f11 (Fa haft 11);go_simp;exact hK _ _ (e13 ⟨rfl,⟨V J.f0,V J.f1,V J.f2,V J.f3,V J.f4,V J.f5,V J.f6,V J.f7,V J.f8,V J.f9,V J.f10,V J.f11,λ_=>⟨g,rfl,hg,hx,hB⟩,λh=>absurd (h.symm.trans zJ) (by simp)⟩⟩)
end
end Go.Proofs.YtggmjiddadjilahGreat
