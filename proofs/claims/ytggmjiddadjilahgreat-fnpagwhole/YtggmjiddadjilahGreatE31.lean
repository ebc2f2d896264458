/-
  PROVED HERE: the program's HgtLines at a drawn table and any width: the lines of each cell, in memory of their own; nothing that was in memory is turned. Also: 6 more texts of the same proof.
-/
import Derived.Test.YtggmjiddadjilahGreatE30
import Derived.Test.YtggmjiddadjilahGreatE11
set_option maxRecDepth 1000000
set_option maxHeartbeats 40000000
namespace Go.Proofs.YtggmjiddadjilahGreat
section
open Go.RowKit Go.BigFrame
structure HlJ (w W1 W3:World) (BB:Nat) (ac ar ag:Option Addr) (cc cr cg:Nat) (t:T) (x:GC) (U:Value) (us:List Value) (ls:List (List ByteArray)) (lns:List ByteArray) (s:ByteArray) (q:Int) (va:Value) (k tb gb cb b off:Nat) (L:Nat→Bool) (W:World) (v6 v24 v25 v26 v27 v28 v29 v30 v31 v32 v33 v34 v35:Value):Prop where
 f0:L 0=true→v24=U
 f1:L 1=true→v25=.agg #[.slice ac t.cols.length cc,.int .i64 t.head,.int .i64 t.foot,.slice ar t.rows.length cr,.int .i64 t.gap]
 f2:L 2=true→v26=.agg #[.int .i64 x.row,.int .i64 x.col,.int .i64 x.rows,.int .i64 x.cols,.int .i64 x.ins]
 f3:L 3=true→v27=.string s
 f4:L 4=true→v28=va
 f5:L 5=true→v29=.pointer (some ⟨tb,4,none⟩)
 f6:L 6=true→v30=.int .i64 t.gap
 f7:L 7=true→v31=.agg #[.int .i64 x.row,.int .i64 x.col,.int .i64 x.rows,.int .i64 x.cols,.int .i64 x.ins]
 f8:L 8=true→v32=.int .i64 q
 f9:L 9=true→L 11=false→z1A W BB v33 lns
 f10:L 10=true→∃ g,v34=.slice (some ⟨g,0,none⟩) 1 1∧(L 11=false→W.cell? ⟨g,0,none⟩=some v33)
 fA:L 12=true→v6=v35
 nA:L 12=false→v6=U
 b4:L 11=false→Below W3.heap.size W3 W
 bel:Below W1.heap.size W1 W
 ownA:L 11=true→W.ownsRow BB 93 1 v35 (us ++ [v33]).length (us ++ [v33])∧z2y W BB (us ++ [v33]) (ls ++ [lns])
theorem zdT (a b c:Value) (W:World):(Instr.field 38 (.agg #[a,b,c]) 2).run Tryz.prog W=.ok c W:=by kernel_rfl
theorem zdk (ac ar:Option Addr) (cc cr:Nat) (t:T) (hD:z0f t) (width:Int) (w:World) {z:Nat} (hc:z07 w z (.slice ac t.cols.length cc) t.cols) (hr:z01 w z (.slice ar t.rows.length cr) t.rows) :
  Calls Tryz.prog 57 #[.agg #[.slice ac t.cols.length cc,.int .i64 t.head,.int .i64 t.foot,.slice ar t.rows.length cr,.int .i64 t.gap],.int .i64 width] w fun e w'=>∃ v,e=.returned v∧z2x w' w.heap.size v (z52 t width)∧Below w.heap.size w w':=by
 have hmx:Tryz.prog.follows .mixedOrders=true:=(by kernel_rfl);have hfld:=zdT;obtain ⟨i0,hi0,hz0,hz1,hz2⟩:=info_parts zgJ;have HK0:=Hd (ze (Below.refl w.heap.size w) (.cells #[.slice ac t.cols.length cc,.int .i64 t.head,.int .i64 t.foot,.slice ar t.rows.length cr,.int .i64 t.gap] 26));have HX0:=Hd (zj w (.cells #[.slice ac t.cols.length cc,.int .i64 t.head,.int .i64 t.foot,.slice ar t.rows.length cr,.int .i64 t.gap] 26));have HT0:Hid (TA w z ac ar cc cr t):=⟨hc,hr⟩;have hs0:(w.alloc (.cells #[.slice ac t.cols.length cc,.int .i64 t.head,.int .i64 t.foot,.slice ar t.rows.length cr,.int .i64 t.gap] 26)).heap.size=w.heap.size+1:=(by simp);clear hc hr;go_enter Tryz.func57,Tryz.ntmps57;go_upto_region 1 with fail
 generalize w.alloc (.cells #[.slice ac t.cols.length cc,.int .i64 t.head,.int .i64 t.foot,.slice ar t.rows.length cr,.int .i64 t.gap] 26)=W0 at HK0 HX0 hs0 ⊢;obtain ⟨b0,b1,b2,b3,b4⟩:=zU HX0.out;have KM:=Hd (z4q ac ar cc cr t width _ (HT0.out.kept HK0.out).1 (HT0.out.kept HK0.out).2)
 cases hmay:(zC t && inB width 0 300) with
 | false =>
  have HW:Hid (z52 t width=[]):=(by rw [Hid,z52,if_neg (by rw [hmay];simp)]);rw [hmay] at KM;clear hmay;go_wp2_with fail
  refine KM.out.mono ?_;rintro e w2 ⟨rfl,hb2⟩;have HK2:=Hd (zh HK0.out hb2);clear hb2 KM b0 b1 b2 b3 b4;go_wp2;go_ret;exact ⟨_,rfl,by rw [HW.out];exact ⟨none,0,rfl,Nat.le_refl _,Nat.zero_le _,fun i hi=>absurd hi (Nat.not_lt_zero _)⟩,HK2.out⟩
 | true =>
  have HW:Hid (z52 t width=z19 t (z0d t width) (gOf t).cells):=(by rw [Hid,z52,if_pos hmay]);rw [hmay] at KM;have HWT:Hid (z5J t width=z0d t width):=(by rw [Hid,z5J,if_pos hmay]);rw [Bool.and_eq_true] at hmay;obtain ⟨htk,hin⟩:=hmay;have hw:0≤width∧width≤300:=(by simpa [inB] using hin);obtain ⟨_,hlw,_⟩:=zex hD htk hw;obtain ⟨_,hC88,_⟩:=z4Q hD htk;obtain ⟨h40,C,hgc,hC88',hcel⟩:=z2Y hD;have HCel:=Hd hcel;have HLw:=Hd hlw;have hl1:(z0d t width).length≤1048576:=(by rw [hlw];omega);have KC:=Hd (fun W (h:TA W z ac ar cc cr t)=>zdR ac ar cc cr t hD width W h.1 h.2);have KG:=Hd (fun W (h:TA W z ac ar cc cr t)=>z5D ac ar cc cr t hD W h.1 h.2);rw [HWT.out] at KC;generalize z0d t width=l at KC HW HLw hl1;have HGk:=Hd (z65 hD);clear hlw hcel hgc hD htk hin hw hC88' HWT;go_wp2_with fail
  refine KM.out.mono ?_;rintro e w2 ⟨rfl,hb2⟩;have HX2:=Hd ((hb2.block w.heap.size (by omega)).trans HX0.out);have HK2:=Hd (zh HK0.out hb2);have hz2':w.heap.size < w2.heap.size:=(by have:=hb2.size;omega);clear hb2 KM b0 b1 b2 b3 b4 HX0 HK0;obtain ⟨b0,b1,b2,b3,b4⟩:=zU HX2.out;go_wp2_with fail
  refine (KC.out _ (HT0.out.kept HK2.out)).mono ?_;rintro e w3 ⟨v3,rfl,hR3,hb3⟩;obtain ⟨a3,c3,rfl⟩:=hR3.form;have HI3:=Hd hR3.at;rw [HLw.out] at HI3;have HX3:=Hd ((hb3.block w.heap.size hz2').trans HX2.out);have HK3:=Hd (zh HK2.out hb3);have hz3:w.heap.size < w3.heap.size:=(by have:=hb3.size;omega);clear hb3 hR3 b0 b1 b2 b3 b4 HX2 HK2;rw [HLw.out];obtain ⟨b0,b1,b2,b3,b4⟩:=zU HX3.out;go_wp2_with fail
  refine (KG.out _ (HT0.out.kept HK3.out)).mono ?_;rintro e W1 ⟨vg,rfl,hO4,hb4⟩;obtain ⟨ag,cg,rfl⟩:=z4G hO4;have HG1:=Hd (hO4.at HGk.out);have HX1:=Hd ((hb4.block w.heap.size hz3).trans HX3.out);have HK1:=Hd (zh HK3.out hb4);have HI1:=Hd (HI3.out.kept hb4);have hz1':w.heap.size < W1.heap.size:=(by have:=hb4.size;omega);have HLe:=Hd (z46 t l (gOf t).cells);have HLn:=Hd (fun k (h:k < (gOf t).cells.length)=>z92 t l h);have HLs:=Hd (z93 t l (gOf t).cells);clear hb4 hO4 b0 b1 b2 b3 b4 HX3 HK3 HI3;go_wp2_with fail
  go_loopw [6,20] (fun o i W=>∃ (k:Nat) (us:List Value),i=.int .i64 k∧k≤(gOf t).cells.length∧Hid (W.ownsRow W1.heap.size 93 1 o us.length us)∧Hid (z2y W W1.heap.size us ((z19 t l (gOf t).cells).take k))∧Hid (Below W1.heap.size W1 W)) (fun _ i _=>(gOf t).cells.length - (intOf i).toNat)
  case atStart=>exact ⟨0,[],rfl,Nat.zero_le _,World.ownsRow_nil _ _ _ _,by rw [List.take_zero];exact z2y.nil _ _,Below.refl _ _⟩
  case round =>
   obtain ⟨k,us,rfl,hk,HO,HRs,HBr⟩:=hrel;by_cases hkl:k < (gOf t).cells.length
   case neg =>
    obtain rfl:k=(gOf t).cells.length:=by omega
    rw [← HLe.out,List.take_length] at HRs;have HF:=Hd (HRs.out.lls HO.out (z:=w.heap.size) (by omega) (by omega) HLs.out);have HK:=Hd (HK1.out.trans (HBr.out.mono (by omega)));go_wp2;go_ret;exact ⟨_,rfl,by rw [HW.out];exact HF.out,HK.out⟩
   obtain ⟨b,off,cap',e',hc1,hc2,hbl,hx,hxo⟩:=At.get (HG1.out.kept HBr.out) hkl;simp only [Value.slice.injEq,true_and] at e';obtain ⟨rfl,rfl⟩:=e';have HNx:=Hd (HLn.out k hkl);have HCx:=Hd (HCel.out k hkl);generalize (z19 t l (gOf t).cells).take k=ls at HRs HNx;generalize (gOf t).cells.getD k dG=x at hx hxo HNx HCx;obtain ⟨x0,x1,x2,x3,x4⟩:=hx;unfold maxLen at hc2;go_upto_region 8 with fail
   have HB4:=Hd (ze (Below.refl wr.heap.size wr) (.cells #[.int .i64 x.row,.int .i64 x.col,.int .i64 x.rows,.int .i64 x.cols,.int .i64 x.ins] 51));have HB1:=Hd (zh HBr.out HB4.out);have HC4:=Hd (zj wr (.cells #[.int .i64 x.row,.int .i64 x.col,.int .i64 x.rows,.int .i64 x.cols,.int .i64 x.ins] 51));have hlc:wr.heap.size < (wr.alloc (.cells #[.int .i64 x.row,.int .i64 x.col,.int .i64 x.rows,.int .i64 x.cols,.int .i64 x.ins] 51)).heap.size:=(by simp);have HX:=Hd ((HB1.out.block w.heap.size hz1').trans HX1.out);have hlt0:w.heap.size < (wr.alloc (.cells #[.int .i64 x.row,.int .i64 x.col,.int .i64 x.rows,.int .i64 x.cols,.int .i64 x.ins] 51)).heap.size:=(bL HX.out);replace HO:=Hd (z4o HO.out HB4.out);replace HRs:=Hd (HRs.out.kept HB4.out);generalize wr.alloc (.cells #[.int .i64 x.row,.int .i64 x.col,.int .i64 x.rows,.int .i64 x.cols,.int .i64 x.ins] 51)=W3 at HB4 HB1 HC4 hlc HX hlt0 HO HRs ⊢;generalize wr.heap.size=cb at HC4 hlc ⊢;have hsz:(zJ t x).size≤maxLen:=z6F HCx.out HT0.out.2;have KT:=Hd (fun W (h:Below W3.heap.size W3 W)=>za3 ac ar cc cr t x HCx.out W (((HT0.out.2.kept HK1.out).kept HB1.out).kept h));have KW:=Hd (fun W (h:Below W3.heap.size W3 W)=>z91 _ l hl1 t.gap x hxo W ((HI1.out.kept HB1.out).kept h));have KL:=Hd (fun W=>zdj (zJ t x) hsz (z2m l t.gap x) W);have HNy:Hid ((z19 t l (gOf t).cells).take (k+1)=ls ++ [zS (z18 (z2m l t.gap x) (zQ (zJ t x)))]):=HNx.out;clear HNx hsz;have HNx:=HNy;clear HNy HCx hxo;generalize zS (z18 (z2m l t.gap x) (zQ (zJ t x)))=lns at KL HNx;generalize z2m l t.gap x=q at KW KL;generalize zJ t x=s at KT KL;have husl:us.length≤40:=(by have h1:=HRs.out.1;have h2:=congrArg List.length HNx.out;rw [List.length_append,List.length_take,List.length_singleton] at h2;omega);have HBs:Hid (∀ {m:Nat},W1.heap.size≤m→W1.heap.size≤m):=fun h=>h;have HBs2:Hid (∀ {m:Nat},W1.heap.size≤m→W1.heap.size≤m):=fun h=>h;clear HCel HLn HLs HLe x0 x1 x2 x3 x4 HBr HB4;refine z0p (fun L act W=>∃ v6 v24 v25 v26 v27 v28 v29 v30 v31 v32 v33 v34 v35:Value,act=⟨#[.agg #[.slice ac t.cols.length cc,.int .i64 t.head,.int .i64 t.foot,.slice ar t.rows.length cr,.int .i64 t.gap],.int .i64 width,.pointer (some ⟨w.heap.size,0,none⟩),undef,.slice none 0 0,.slice a3 (zy t) c3,v6,undef,.pointer (some ⟨cb,0,none⟩),.agg #[.slice ac t.cols.length cc,.int .i64 t.head,.int .i64 t.foot,.slice ar t.rows.length cr,.int .i64 t.gap],.int .i64 width,.bool true,.bool false,.agg #[.slice ac t.cols.length cc,.int .i64 t.head,.int .i64 t.foot,.slice ar t.rows.length cr,.int .i64 t.gap],.int .i64 width,.slice a3 (zy t) c3,.agg #[.slice ac t.cols.length cc,.int .i64 t.head,.int .i64 t.foot,.slice ar t.rows.length cr,.int .i64 t.gap],.agg #[.int .i64 (gOf t).rows,.int .i64 (gOf t).cols,.slice (some ⟨b,off,none⟩) (gOf t).cells.length cg],.slice (some ⟨b,off,none⟩) (gOf t).cells.length cg,.int .i64 ((gOf t).cells.length:Int),.int .i64 (k:Int),.bool true,.pointer (some ⟨b,off+k * 5,none⟩),.agg #[.int .i64 x.row,.int .i64 x.col,.int .i64 x.rows,.int .i64 x.cols,.int .i64 x.ins],v24,v25,v26,v27,v28,v29,v30,v31,v32,v33,v34,v35,u36,undef],[]⟩∧HlJ w W1 W3 W1.heap.size ac ar (some ⟨b,off,none⟩) cc cr cg t x u6 us ls lns s q (.slice a3 (zy t) c3) k w.heap.size 0 cb b off L W v6 v24 v25 v26 v27 v28 v29 v30 v31 v32 v33 v34 v35) hmx (by kernel_rfl) ?hs ?hd ?h0
   case h0=>exact ⟨_,_,_,_,_,_,_,_,_,_,_,_,_,rfl,⟨(fun h=>by cases h),(fun h=>by cases h),(fun h=>by cases h),(fun h=>by cases h),(fun h=>by cases h),(fun h=>by cases h),(fun h=>by cases h),(fun h=>by cases h),(fun h=>by cases h),(fun h=>by cases h),(fun h=>by cases h),(fun h=>by cases h),(fun _=>rfl),(fun _=>z1d (Below.refl _ _)),z1d HB1.out,(fun h=>by cases h)⟩⟩
   case hd =>
    intro L act W hJ hall;obtain ⟨v6,v24,v25,v26,v27,v28,v29,v30,v31,v32,v33,v34,v35,ha,J⟩:=hJ;subst ha;obtain rfl:=J.fA (hall 12 (by decide));obtain ⟨ho5,hr5⟩:=J.ownA (hall 11 (by decide));have HO5:=Hd ho5;have HR5:=Hd hr5;have HB5:=Hd J.bel;obtain ⟨g',cap'',rfl⟩:=Joins.ownsRow_form HO5.out (by simp);clear J hall ho5 hr5;go_wp2;go_roundw
    case rel=>exact ⟨k+1,_,by go_num,by omega,HO5,by rw [HNx.out];exact HR5,HB5⟩
    case measure=>simp [intOf];omega
   case hs =>
    intro L act W i o hJ hcl ho hLi haft K hK;obtain ⟨v6,v24,v25,v26,v27,v28,v29,v30,v31,v32,v33,v34,v35,ha,J⟩:=hJ;subst ha
    have hi':i < 13:=by
     have:=(bL ho)
     simpa using this
    rcases (by omega:i=0∨i=1∨i=2∨i=3∨i=4∨i=5∨i=6∨i=7∨i=8∨i=9∨i=10∨i=11∨i=12) with rfl | rfl | rfl | rfl | rfl | rfl | rfl | rfl | rfl | rfl | rfl | rfl | rfl
    all_goals
     simp only [List.getElem?_toArray,List.getElem?_cons_zero,List.getElem?_cons_succ,Option.some.injEq] at ho;subst ho;clear hi'
    ·have hAp:L 11=false:=(Qh hcl 11 0 hLi);have hAs:L 12=false:=(Qh hcl 12 11 (Qh hcl 11 0 hLi));have B4:=J.b4 hAp;obtain rfl:=J.nA hAs;go_simp;exact hK _ _ ⟨_,_,_,_,_,_,_,_,_,_,_,_,_,rfl,⟨(fun _=>rfl),uq J.f1,uq J.f2,uq J.f3,uq J.f4,uq J.f5,uq J.f6,uq J.f7,uq J.f8,(fun h h2=>J.f9 (un h) (by rwa [zc rfl] at h2)),(ub J.f10),(uf hAs),uq J.nA,(fun _=>B4),J.bel,(uf hAp)⟩⟩
    ·have hAp:L 11=false:=(Qh hcl 11 10 (Qh hcl 10 9 (Qh hcl 9 3 (Qh hcl 3 1 hLi))));have hAs:L 12=false:=(Qh hcl 12 11 (Qh hcl 11 10 (Qh hcl 10 9 (Qh hcl 9 3 (Qh hcl 3 1 hLi)))));have B4:=J.b4 hAp;obtain ⟨q0,q1,q2,q3,q4⟩:=zU ((B4.block _ hlt0).trans HX.out);have hl:=Nat.lt_of_lt_of_le hlt0 B4.size;go_simp;exact hK _ _ ⟨_,_,_,_,_,_,_,_,_,_,_,_,_,rfl,⟨uq J.f0,(fun _=>rfl),uq J.f2,uq J.f3,uq J.f4,uq J.f5,uq J.f6,uq J.f7,uq J.f8,(fun h h2=>J.f9 (un h) (by rwa [zc rfl] at h2)),(ub J.f10),(uf hAs),uq J.nA,(fun _=>B4),J.bel,(uf hAp)⟩⟩
    ·have hAp:L 11=false:=(Qh hcl 11 10 (Qh hcl 10 9 (Qh hcl 9 3 (Qh hcl 3 2 hLi))));have hAs:L 12=false:=(Qh hcl 12 11 (Qh hcl 11 10 (Qh hcl 10 9 (Qh hcl 9 3 (Qh hcl 3 2 hLi)))));have B4:=J.b4 hAp;obtain ⟨q0,q1,q2,q3,q4⟩:=zU ((B4.block _ hlc).trans HC4.out);have hl:=Nat.lt_of_lt_of_le hlc B4.size;go_simp;exact hK _ _ ⟨_,_,_,_,_,_,_,_,_,_,_,_,_,rfl,⟨uq J.f0,uq J.f1,(fun _=>rfl),uq J.f3,uq J.f4,uq J.f5,uq J.f6,uq J.f7,uq J.f8,(fun h h2=>J.f9 (un h) (by rwa [zc rfl] at h2)),(ub J.f10),(uf hAs),uq J.nA,(fun _=>B4),J.bel,(uf hAp)⟩⟩
    ·have hAp:L 11=false:=(Qh hcl 11 10 (Qh hcl 10 9 (Qh hcl 9 3 hLi)));have hAs:L 12=false:=(Qh hcl 12 11 (Qh hcl 11 10 (Qh hcl 10 9 (Qh hcl 9 3 hLi))));have B4:=J.b4 hAp;obtain rfl:=J.f1 (Fa haft 1);obtain rfl:=J.f2 (Fa haft 2);go_simp;go_wp2_with (go_at_call 102;refine (KT.out W B4).mono ?_;rintro e WN ⟨rfl,_,hb⟩)
     exact ⟨_,_,_,_,_,_,_,_,_,_,_,_,_,rfl,⟨uq J.f0,uq J.f1,uq J.f2,(fun _=>rfl),uq J.f4,uq J.f5,uq J.f6,uq J.f7,uq J.f8,(fun h h2=>(J.f9 (un h) (by rwa [zc rfl] at h2)).below hb (Nat.le_refl _)),(fun h=>by obtain ⟨g,e,c⟩:=J.f10 (un h);exact ⟨g,e,fun h2=>(hb.cell (World.block_lt_of_cell? _ _ (c (by rwa [zc rfl] at h2)))).trans (c (by rwa [zc rfl] at h2))⟩),(uf hAs),uq J.nA,(fun _=>zh B4 hb),zh J.bel hb,(uf hAp)⟩⟩
    ·have hAp:L 11=false:=(Qh hcl 11 10 (Qh hcl 10 9 (Qh hcl 9 8 (Qh hcl 8 4 hLi))));have hAs:L 12=false:=(Qh hcl 12 11 (Qh hcl 11 10 (Qh hcl 10 9 (Qh hcl 9 8 (Qh hcl 8 4 hLi)))));have B4:=J.b4 hAp;go_simp;exact hK _ _ ⟨_,_,_,_,_,_,_,_,_,_,_,_,_,rfl,⟨uq J.f0,uq J.f1,uq J.f2,uq J.f3,(fun _=>rfl),uq J.f5,uq J.f6,uq J.f7,uq J.f8,(fun h h2=>J.f9 (un h) (by rwa [zc rfl] at h2)),(ub J.f10),(uf hAs),uq J.nA,(fun _=>B4),J.bel,(uf hAp)⟩⟩
    ·have hAp:L 11=false:=(Qh hcl 11 10 (Qh hcl 10 9 (Qh hcl 9 8 (Qh hcl 8 6 (Qh hcl 6 5 hLi)))));have hAs:L 12=false:=(Qh hcl 12 11 (Qh hcl 11 10 (Qh hcl 10 9 (Qh hcl 9 8 (Qh hcl 8 6 (Qh hcl 6 5 hLi))))));have B4:=J.b4 hAp;go_simp;exact hK _ _ ⟨_,_,_,_,_,_,_,_,_,_,_,_,_,rfl,⟨uq J.f0,uq J.f1,uq J.f2,uq J.f3,uq J.f4,(fun _=>rfl),uq J.f6,uq J.f7,uq J.f8,(fun h h2=>J.f9 (un h) (by rwa [zc rfl] at h2)),(ub J.f10),(uf hAs),uq J.nA,(fun _=>B4),J.bel,(uf hAp)⟩⟩
    ·have hAp:L 11=false:=(Qh hcl 11 10 (Qh hcl 10 9 (Qh hcl 9 8 (Qh hcl 8 6 hLi))));have hAs:L 12=false:=(Qh hcl 12 11 (Qh hcl 11 10 (Qh hcl 10 9 (Qh hcl 9 8 (Qh hcl 8 6 hLi)))));have B4:=J.b4 hAp;obtain ⟨q0,q1,q2,q3,q4⟩:=zU ((B4.block _ hlt0).trans HX.out);have hl:=Nat.lt_of_lt_of_le hlt0 B4.size;obtain rfl:=J.f5 (Fa haft 5);go_simp;exact hK _ _ ⟨_,_,_,_,_,_,_,_,_,_,_,_,_,rfl,⟨uq J.f0,uq J.f1,uq J.f2,uq J.f3,uq J.f4,uq J.f5,(fun _=>rfl),uq J.f7,uq J.f8,(fun h h2=>J.f9 (un h) (by rwa [zc rfl] at h2)),(ub J.f10),(uf hAs),uq J.nA,(fun _=>B4),J.bel,(uf hAp)⟩⟩
    ·have hAp:L 11=false:=(Qh hcl 11 10 (Qh hcl 10 9 (Qh hcl 9 8 (Qh hcl 8 7 hLi))));have hAs:L 12=false:=(Qh hcl 12 11 (Qh hcl 11 10 (Qh hcl 10 9 (Qh hcl 9 8 (Qh hcl 8 7 hLi)))));have B4:=J.b4 hAp;obtain ⟨q0,q1,q2,q3,q4⟩:=zU ((B4.block _ hlc).trans HC4.out);have hl:=Nat.lt_of_lt_of_le hlc B4.size;go_simp;exact hK _ _ ⟨_,_,_,_,_,_,_,_,_,_,_,_,_,rfl,⟨uq J.f0,uq J.f1,uq J.f2,uq J.f3,uq J.f4,uq J.f5,uq J.f6,(fun _=>rfl),uq J.f8,(fun h h2=>J.f9 (un h) (by rwa [zc rfl] at h2)),(ub J.f10),(uf hAs),uq J.nA,(fun _=>B4),J.bel,(uf hAp)⟩⟩
    ·have hAp:L 11=false:=(Qh hcl 11 10 (Qh hcl 10 9 (Qh hcl 9 8 hLi)));have hAs:L 12=false:=(Qh hcl 12 11 (Qh hcl 11 10 (Qh hcl 10 9 (Qh hcl 9 8 hLi))));have B4:=J.b4 hAp;obtain rfl:=J.f4 (Fa haft 4);obtain rfl:=J.f6 (Fa haft 6);obtain rfl:=J.f7 (Fa haft 7);go_simp;go_wp2_with (go_at_call 103;refine (KW.out W B4).mono ?_;rintro e WN ⟨rfl,hb⟩)
     exact ⟨_,_,_,_,_,_,_,_,_,_,_,_,_,rfl,⟨uq J.f0,uq J.f1,uq J.f2,uq J.f3,uq J.f4,uq J.f5,uq J.f6,uq J.f7,(fun _=>rfl),(fun h h2=>(J.f9 (un h) (by rwa [zc rfl] at h2)).below hb (Nat.le_refl _)),(fun h=>by obtain ⟨g,e,c⟩:=J.f10 (un h);exact ⟨g,e,fun h2=>(hb.cell (World.block_lt_of_cell? _ _ (c (by rwa [zc rfl] at h2)))).trans (c (by rwa [zc rfl] at h2))⟩),(uf hAs),uq J.nA,(fun _=>zh B4 hb),zh J.bel hb,(uf hAp)⟩⟩
    ·have hAp:L 11=false:=(Qh hcl 11 10 (Qh hcl 10 9 hLi));have hAs:L 12=false:=(Qh hcl 12 11 (Qh hcl 11 10 (Qh hcl 10 9 hLi)));have B4:=J.b4 hAp;obtain rfl:=J.f3 (Fa haft 3);obtain rfl:=J.f8 (Fa haft 8);go_simp;go_wp2_with (go_at_call 101;refine (KL.out W).mono ?_;rintro e WN ⟨vt,rfl,hR,hb⟩;have hR2:=(z1A.of_owns hR).base (B':=W1.heap.size) (HBs.out J.bel.size);clear hR)
     exact ⟨_,_,_,_,_,_,_,_,_,_,_,_,_,rfl,⟨uq J.f0,uq J.f1,uq J.f2,uq J.f3,uq J.f4,uq J.f5,uq J.f6,uq J.f7,uq J.f8,(fun _ _=>hR2),(fun h=>by rw [zc rfl,(Qh hcl 10 9 hLi)] at h;cases h),(uf hAs),uq J.nA,(fun _=>zh B4 hb),zh J.bel hb,(uf hAp)⟩⟩
    ·have hAp:L 11=false:=(Qh hcl 11 10 hLi);have hAs:L 12=false:=(Qh hcl 12 11 (Qh hcl 11 10 hLi));have B4:=J.b4 hAp;obtain ⟨a9,c9,rfl⟩:=(J.f9 (Fa haft 9) hAp).form;go_simp;exact hK _ _ ⟨_,_,_,_,_,_,_,_,_,_,_,_,_,rfl,⟨uq J.f0,uq J.f1,uq J.f2,uq J.f3,uq J.f4,uq J.f5,uq J.f6,uq J.f7,uq J.f8,(fun h h2=>(J.f9 (un h) (by rwa [zc rfl] at h2)).below (ze (Below.refl _ _) _) (Nat.le_refl _)),(fun _=>⟨_,rfl,fun _=>by simp⟩),(uf hAs),uq J.nA,(fun _=>ze B4 _),ze J.bel _,(uf hAp)⟩⟩
    ·have hAp:L 11=false:=hLi;have hAs:L 12=false:=(Qh hcl 12 11 hLi);have B4:=J.b4 hAp;obtain rfl:=J.f0 (Fa haft 0);obtain ⟨g,rfl,hg⟩:=J.f10 (Fa haft 10);have hO4:=z4o HO.out B4;have hT4:=J.f9 (by cases hz:L 9 with | true=>rfl | false=>have:=hcl 10 9 (by kernel_rfl) hz;rw [(Fa haft 10)] at this;cases this) hAp;rw [if_pos (by rfl)];refine wp_append_own _ (.tmp 24) (.tmp 34) 83 rfl W1.heap.size 93 i0 (.slice none 0 0) 1 24 Tryz.underlying83 hi0 hz0 hz1 hz2 rfl (by decide) _ _ _ rfl hO4 ⟨g,0,none⟩ 1 1 [v33] rfl rfl ?c1 ?c2 ?c3 ?c4 ?c5 ?_
     case c1 =>
      intro i u hi
      match i,hi with
      | 0,hi=>simp at hi;subst hi;simpa [Addr.add] using hg hAp
     case c2=>intro u hu;simp at hu;subst hu;obtain ⟨a9,c9,rfl⟩:=hT4.form;rfl
     case c3=>unfold maxLen;omega
     case c4=>omega
     case c5=>exact HBs.out (J.bel.size)
     intro v' w5 hown' hgrow' _;have hB5:Below W1.heap.size W1 w5:=J.bel.grown hgrow' J.bel.size (fun q hq=>HBs2.out (hO4.lt q hq).1);have hR5:=((HRs.out.kept B4).grown hO4 hgrow').next (hT4.grown hO4 hgrow');exact hK _ _ ⟨_,_,_,_,_,_,_,_,_,_,_,_,_,rfl,⟨uq J.f0,uq J.f1,uq J.f2,uq J.f3,uq J.f4,uq J.f5,uq J.f6,uq J.f7,uq J.f8,(fun _ h2=>by rw [zI] at h2;cases h2),(fun _=>⟨g,rfl,fun h2=>by rw [zI] at h2;cases h2⟩),(uf hAs),uq J.nA,(fun h=>by rw [zI] at h;cases h),hB5,(fun _=>⟨by rw [List.length_append];exact hown',hR5⟩)⟩⟩
    ·go_simp;exact hK _ _ ⟨_,_,_,_,_,_,_,_,_,_,_,_,_,rfl,⟨uq J.f0,uq J.f1,uq J.f2,uq J.f3,uq J.f4,uq J.f5,uq J.f6,uq J.f7,uq J.f8,(fun h h2=>J.f9 (un h) (by rwa [zc rfl] at h2)),(ub J.f10),(fun _=>rfl),(fun h=>by rw [zI] at h;cases h),uq J.b4,J.bel,uq J.ownA⟩⟩
def HrP (W5:World) (R:Nat) (L:List Int) (W:World):Prop:=Below W5.heap.size W5 W∧zq W W5.heap.size (W5.heap.size+1) (.slice (some ⟨W5.heap.size,0,none⟩) R R) L∧W5.heap.size+1≤W.heap.size
theorem HrP.kept {W5 W W':World} {R:Nat} {L:List Int} (h:HrP W5 R L W) (hb:Below W.heap.size W W'):HrP W5 R L W' :=
 ⟨h.1.trans (hb.mono h.1.size),h.2.1.kept (fun j h0 _ _=>hb.block j h0),Nat.le_trans h.2.2 hb.size⟩
theorem HrP.set {W5 W W':World} {R:Nat} {L:List Int} (h:HrP W5 R L W) {r:Nat} (hr:r < L.length) (hb:Below W.heap.size W W') (y:Int):HrP W5 R (L.set r y) (W'.setCell ⟨W5.heap.size,r,none⟩ (.int .i64 y)) :=
 ⟨z2l (h.kept hb).1 (p:=⟨W5.heap.size,r,none⟩) (Nat.le_refl _) (.int .i64 y),(h.kept hb).2.1.set hr y,by rw [z2T];exact (h.kept hb).2.2⟩
theorem z97 (ac ar:Option Addr) (cc cr:Nat) (t:T) (hD:z0f t) (width:Int) (w:World) {z:Nat} (hc:z07 w z (.slice ac t.cols.length cc) t.cols) (hr:z01 w z (.slice ar t.rows.length cr) t.rows) :
  Calls Tryz.prog 22 #[.agg #[.slice ac t.cols.length cc,.int .i64 t.head,.int .i64 t.foot,.slice ar t.rows.length cr,.int .i64 t.gap],.int .i64 width] w fun e w'=>∃ v,e=.returned v∧zq w' w.heap.size w'.heap.size v (z0y t width)∧Below w.heap.size w w':=by
 have hmx:Tryz.prog.follows .mixedOrders=true:=(by kernel_rfl);have HK0:=Hd (ze (Below.refl w.heap.size w) (.cells #[.slice ac t.cols.length cc,.int .i64 t.head,.int .i64 t.foot,.slice ar t.rows.length cr,.int .i64 t.gap] 26));have HX0:=Hd (zj w (.cells #[.slice ac t.cols.length cc,.int .i64 t.head,.int .i64 t.foot,.slice ar t.rows.length cr,.int .i64 t.gap] 26));have HT0:Hid (TA w z ac ar cc cr t):=⟨hc,hr⟩;have hs0:(w.alloc (.cells #[.slice ac t.cols.length cc,.int .i64 t.head,.int .i64 t.foot,.slice ar t.rows.length cr,.int .i64 t.gap] 26)).heap.size=w.heap.size+1:=(by simp);clear hc hr;go_enter Tryz.func22,Tryz.ntmps22;go_wp2_with fail
 go_step3
 generalize w.alloc (.cells #[.slice ac t.cols.length cc,.int .i64 t.head,.int .i64 t.foot,.slice ar t.rows.length cr,.int .i64 t.gap] 26)=W0 at HK0 HX0 hs0 ⊢;obtain ⟨b0,b1,b2,b3,b4⟩:=zU HX0.out;have KM:=Hd (z4q ac ar cc cr t width _ (HT0.out.kept HK0.out).1 (HT0.out.kept HK0.out).2)
 cases hmay:(zC t && inB width 0 300) with
 | false =>
  have HW:Hid (z0y t width=[]):=(by rw [Hid,z0y,if_neg (by rw [hmay];simp)]);rw [hmay] at KM;clear hmay;go_wp2_with fail
  refine KM.out.mono ?_;rintro e w2 ⟨rfl,hb2⟩;have HK2:=Hd (zh HK0.out hb2);clear hb2 KM b0 b1 b2 b3 b4;go_wp2
  try rw [Exit.noGoto_ret]
  go_ret;exact ⟨_,rfl,by rw [HW.out];exact .inl ⟨rfl,rfl⟩,HK2.out⟩
 | true =>
  have HW:Hid (z0y t width=z75 t (z0d t width)):=(by rw [Hid,z0y,if_pos hmay]);rw [hmay] at KM;have HLT:Hid (z52 t width=z19 t (z0d t width) (gOf t).cells):=(by rw [Hid,z52,if_pos hmay]);rw [Bool.and_eq_true] at hmay;obtain ⟨htk,hin⟩:=hmay;have h40:=zjO hD;have hR8:=zfa hD htk;have HGr:=Hd (ziA htk);have HGc:=Hd (ziB hD htk);have HGm:=Hd (ziC hD htk);have HGk:=Hd (z65 hD);have HLl:=Hd (z46 t (z0d t width) (gOf t).cells);have HLa:=Hd (zfb t (z0d t width) (gOf t).cells);have HRc:=Hd (ziD t (z0d t width) (gOf t).cells);have KC:=Hd (fun W (h:TA W z ac ar cc cr t)=>zdk ac ar cc cr t hD width W h.1 h.2);have KG:=Hd (fun W (h:TA W z ac ar cc cr t)=>z5D ac ar cc cr t hD W h.1 h.2);rw [HLT.out] at KC;unfold z75 at HW;generalize z19 t (z0d t width) (gOf t).cells=ls at KC HW HLl HLa HRc;obtain ⟨R,hRe⟩:∃ R:Nat,t.rows.length=R:=⟨_,rfl⟩;rw [hRe] at HGr HGc hR8 HW;rw [HGr.out] at KG;have hmk:=z5z R (by omega);clear hD htk hin HLT HGr hRe;go_wp2_with fail
  refine KM.out.mono ?_;rintro e w2 ⟨rfl,hb2⟩;have HX2:=Hd ((hb2.block w.heap.size (by omega)).trans HX0.out);have HK2:=Hd (zh HK0.out hb2);have hz2':w.heap.size < w2.heap.size:=(by have:=hb2.size;omega);clear hb2 KM b0 b1 b2 b3 b4 HX0 HK0;obtain ⟨b0,b1,b2,b3,b4⟩:=zU HX2.out;go_wp2_with fail
  refine (KG.out _ (HT0.out.kept HK2.out)).mono ?_;rintro e w3 ⟨vg,rfl,hO3,hb3⟩;obtain ⟨ag,cg,rfl⟩:=z4G hO3;have HG3:=Hd (hO3.at HGk.out);have HX3:=Hd ((hb3.block w.heap.size hz2').trans HX2.out);have HK3:=Hd (zh HK2.out hb3);have hz3:w.heap.size < w3.heap.size:=(by have:=hb3.size;omega);clear hb3 hO3 b0 b1 b2 b3 b4 HX2 HK2 KG;go_upto_region 4 with fail
  have HB4:=ze (Below.refl w3.heap.size w3) (.cells #[.int .i64 (R:Int),.int .i64 (gOf t).cols,.slice ag (gOf t).cells.length cg] 38);have HG4:=Hd (HG3.out.kept HB4);have HX4:=Hd ((HB4.block w.heap.size hz3).trans HX3.out);have HK4:=Hd (zh HK3.out HB4);have HY4:=Hd (zj w3 (.cells #[.int .i64 (R:Int),.int .i64 (gOf t).cols,.slice ag (gOf t).cells.length cg] 38));have hz4:w3.heap.size < (w3.alloc (.cells #[.int .i64 (R:Int),.int .i64 (gOf t).cols,.slice ag (gOf t).cells.length cg] 38)).heap.size:=(by simp);clear HB4 HG3 HX3 HK3;generalize w3.alloc (.cells #[.int .i64 (R:Int),.int .i64 (gOf t).cols,.slice ag (gOf t).cells.length cg] 38)=W4 at HG4 HX4 HK4 HY4 hz4 ⊢;generalize w3.heap.size=gb at HY4 hz3 hz4 ⊢;obtain ⟨b0,b1,b2,b3,b4⟩:=zU HX4.out;go_wp2_with fail
  refine (KC.out _ (HT0.out.kept HK4.out)).mono ?_;rintro e W5 ⟨v5,rfl,hL5,hb5⟩;obtain ⟨al,cl,rfl,_⟩:=At.form hL5;rw [HLl.out] at hL5 ⊢;have HL5:=Hd hL5;have HG5:=Hd (HG4.out.kept hb5);have HK5:=Hd (zh HK4.out hb5);have HY5:=Hd ((hb5.block gb hz4).trans HY4.out);have hz5:gb < W5.heap.size:=(by have:=hb5.size;omega);clear hb5 hL5 b0 b1 b2 b3 b4 HX4 HK4 HG4 HY4 KC HT0 hz2';have y0:W5.cell? ⟨gb,0,none⟩=some (.int .i64 (R:Int)):=zf HY5.out;have HH:Hid (HrP W5 R (z0b (rcs (gOf t).cells ls) 0 ++ zT (R - 0)) (W5.alloc (.cells (z1g R) 3))):=⟨ze (Below.refl _ _) _,z48 W5 R (by omega),by simp⟩;have HRl:=Hd (zaE HLl.out);have HRg:=Hd (fun k (hk:k < (gOf t).cells.length)=>z8F HLl.out hk)
  have HRp:Hid (∀ j,j < (gOf t).cells.length→∀ c,(rcs (gOf t).cells ls)[j]?=some c→c.1=((gOf t).cells.getD j dG).row.toNat∧c.2.1=((gOf t).cells.getD j dG).rows.toNat):=fun j hj c hc=>by
   rw [z8F HLl.out hj] at hc;obtain rfl:=Option.some.inj hc;exact ⟨rfl,rfl⟩
  generalize hcs:rcs (gOf t).cells ls=cs at HRl HRg HRp HRc HW HH;clear hcs;go_wp2_with fail
  go_step3
  go_wp2_with fail
  go_loopw [25] (fun s W=>∃ r:Nat,s=.int .i64 r∧r≤R∧Hid (HrP W5 R (z0b cs r ++ zT (R - r)) W)) (fun s _=>R - (intOf s).toNat)
  case atStart=>exact ⟨0,rfl,Nat.zero_le _,HH⟩
  case round =>
   clear HH y0 hmk;obtain ⟨r,rfl,hr,HH⟩:=hrel;by_cases hlt:r < R
   case neg =>
    obtain rfl:r=R:=by omega
    have HF:=HH;rw [Nat.sub_self,show zT 0=[] from rfl,List.append_nil] at HF;have HK:=Hd (HK5.out.trans (HF.out.1.mono (by omega)));go_wp2;rw [Exit.noGoto_ret];go_ret;exact ⟨_,rfl,by rw [HW.out];exact HF.out.2.1.base (by omega) HF.out.2.2,HK.out⟩
   rw [zcP cs hlt] at HH;have Y:=Hd ((HH.out.1.block gb hz5).trans HY5.out);have q2:wr.cell? ⟨gb,2,none⟩=some (.slice ag (gOf t).cells.length cg):=zf Y.out;go_wp2_with fail
   go_loopw [31] (fun s W=>∃ k:Nat,s=.int .i64 k∧k≤(gOf t).cells.length∧Hid (HrP W5 R (hsL cs R r k) W)) (fun s _=>(gOf t).cells.length - (intOf s).toNat)
   case atStart=>exact ⟨0,rfl,Nat.zero_le _,HH⟩
   case round=>as_aux_lemma =>
    clear HH q2 Y;obtain ⟨k,rfl,hk,HH⟩:=hrel;by_cases hkl:k < (gOf t).cells.length
    case neg =>
     obtain rfl:k=(gOf t).cells.length:=by omega
     rw [← HRl.out,zaF] at HH;go_wp2;go_roundw
     case rel=>exact ⟨r+1,by go_num,by omega,HH⟩
     case measure=>simp [intOf];omega
    obtain ⟨b,off,cap',e',hc1,hc2,hbl,hx,hxo⟩:=At.get (HG5.out.kept HH.out.1) hkl;simp only [Value.slice.injEq,true_and] at e';obtain ⟨rfl,rfl⟩:=e';unfold maxLen at hc2;obtain ⟨a,m,e1,e2,h1,h2⟩:=HGc.out k hkl;have HCv:Hid (cs[k]?=some (a,m,((ls.getD k []).length:Int))):=(by rw [Hid,HRg.out k hkl,zcO,e1,e2,Int.toNat_natCast,Int.toNat_natCast])
    have HLt:Hid (r < a→hsL cs R r k=z0b cs (r+1) ++ zT (R - (r+1))):=fun hra=>by
     rw [← zaF];refine zjj (fun j hkj hj c hc=>?_);rw [HRl.out] at hj;obtain ⟨c1,c2⟩:=HRp.out j hj c hc;obtain ⟨aj,mj,f1,f2,f3,f4⟩:=HGc.out j hj;have hmj:=HGm.out k j hkj hj;rw [c1,c2];omega
    obtain ⟨x0,x1,x2,x3,x4⟩:=hx;rw [e1] at x0;rw [e2] at x2;have HXe:Hid (((gOf t).cells.getD k dG).row=a∧((gOf t).cells.getD k dG).rows=m):=⟨e1,e2⟩;generalize (gOf t).cells.getD k dG=x at x0 x1 x2 x3 x4 hxo HXe;clear e1 e2;by_cases hra:r < a
    ·have hrb:((r:Int) < (a:Int)):=(by omega);have HL1:=Hd (HLt.out hra);rw [HL1.out] at HH;clear HLt HL1 hra;go_wp2;exact ⟨⟨r+1,by go_num,by omega,HH.out.kept (ze (Below.refl _ _) _)⟩,by simp [intOf];omega⟩
    have hrn:¬ ((r:Int) < (a:Int)):=(by omega);clear HLt;by_cases hms:a+m=r+1
    case neg =>
     have hmb:((a:Int)+(m:Int) - 1 == (r:Int))=false:=(by simp;omega);have HS:=Hd (zcR (R:=R) HCv.out hms);clear hms hra;go_wp2;go_roundw
     case rel=>exact ⟨k+1,by go_num,by omega,by rw [HS.out];exact HH.out.kept (ze (Below.refl _ _) _)⟩
     case measure=>simp [intOf];omega
    have hmb:((a:Int)+(m:Int) - 1 == (r:Int))=true:=(by simp;omega);have HS:=Hd (zcS (R:=R) HCv.out hms);have hcb:=z6B (by omega) HRc.out r k;have hsp:=zev HRc.out (r:=r) (by omega) a;have HHi:=Hd (zji HRc.out (R:=R) (k:=k) (by omega) hlt HXe.out.1 HXe.out.2 h1 hms);have hlen:=z8G cs k hlt;have hm1:=HLa.out k hkl;go_upto_region 14 with fail
    have HH4:=Hd (HH.out.kept (ze (Below.refl _ _) (.cells #[.int .i64 (a:Int),.int .i64 x.col,.int .i64 (m:Int),.int .i64 x.cols,.int .i64 x.ins] 51)));have HC4:=zj wr (.cells #[.int .i64 (a:Int),.int .i64 x.col,.int .i64 (m:Int),.int .i64 x.cols,.int .i64 x.ins] 51);have hcbw:wr.heap.size < (wr.alloc (.cells #[.int .i64 (a:Int),.int .i64 x.col,.int .i64 (m:Int),.int .i64 x.cols,.int .i64 x.ins] 51)).heap.size:=(by simp);generalize wr.alloc (.cells #[.int .i64 (a:Int),.int .i64 x.col,.int .i64 (m:Int),.int .i64 x.cols,.int .i64 x.ins] 51)=W6 at HH4 HC4 hcbw ⊢;generalize wr.heap.size=cb at HC4 hcbw hbl ⊢;clear HH x0 x1 x2 x3 x4 hbl hmb hrn hra;obtain ⟨bl,offl,cl',ul,el,hl1,hl2,hlb,hlx,hls⟩:=(HL5.out.kept HH4.out.1).get (i:=k) (by rw [HLl.out];exact hkl);rw [HLl.out] at el hl1;simp only [Value.slice.injEq,true_and] at el;obtain ⟨rfl,rfl⟩:=el;obtain ⟨au,cu,rfl,_⟩:=At.form hls;unfold maxLen at hl2;obtain ⟨g3,cap3,eg3,hBg3,hgD3,hgw3,hc13,hc23,hx3,hf3⟩:=HH4.out.2.1.get (i:=r) (by omega);rw [hlen] at eg3;simp only [Value.slice.injEq,Option.some.injEq,Addr.mk.injEq,and_true,true_and] at eg3;obtain ⟨rfl,rfl⟩:=eg3;rw [zeq] at hx3;have hne:=z0v W6;have m0:=zi (a:=⟨cb,0,none⟩) hcbw (zf (p:=0) HC4);have m1:=zi (a:=⟨cb,1,none⟩) hcbw (zf (p:=1) HC4);have m2:=zi (a:=⟨cb,2,none⟩) hcbw (zf (p:=2) HC4);have m3:=zi (a:=⟨cb,3,none⟩) hcbw (zf (p:=3) HC4);have m4:=zi (a:=⟨cb,4,none⟩) hcbw (zf (p:=4) HC4);have m5:=zi (a:=⟨W5.heap.size,r,none⟩) hgw3 hx3;have m6:=zi (a:=⟨bl,offl+k,none⟩) hlb hlx;have KH0:=Hd (fun (p:BW W6)=>z4l (zdK (.slice (some ⟨W5.heap.size,0,none⟩) R R) (hsL cs R r k) (by omega) x hxo p.u (HH4.out.2.1.at.kept p.h)));simp only [HXe.out.1,HXe.out.2,HHi.out] at KH0;have HN:=Hd (fun W (h:Below W6.heap.size W6 W)=>HH4.out.set (r:=r) (by rw [hlen];exact hlt) h (max (z3a cs r k) (((ls.getD k []).length:Int) - ((z0b cs r).sum - zF (z0b cs r) a))));have HSt:=Hd HS.out.symm;simp only [HSt.out] at HN;clear HS HSt hx3 hls hf3 HCv HXe HHi hc13 hc23 hgD3 hBg3 HC4 hxo;generalize (ls.getD k []).length=n at m6 HN hm1;generalize (z0b cs r).sum - zF (z0b cs r) a=Y at KH0 HN hsp;generalize z3a cs r k=y at hcb m5 HN KH0;have HAL:=Hd (zhW y (n:Int) Y);have t3:(r:Int) < (R:Int):=(by omega);have t4:(k:Int) < ((gOf t).cells.length:Int):=(by omega);refine z1a 16 hmx (by rfl) (by rfl) (by kernel_rfl) (by kernel_rfl) ?_;simp only [List.take_succ_cons,List.take_zero];repeat (go_big_quiet_step (first | (go_at_call 58;refine KH0.out _)))
    refine wpQuiet_nil ?_;intro W7 hw';obtain ⟨⟨Wx,hW7⟩,hw''⟩:=hw';subst hw'';have HN7:=Hd (HN.out _ hW7);rw [← HAL.out] at HN7;obtain ⟨g5,cap5,e5,_,_,hgw5,_,_,hx5,hf5⟩:=(HH4.out.2.1.kept (fun j h0 _ _=>hW7.block j h0)).get (i:=r) (by rw [hlen];exact hlt);simp only [Value.slice.injEq,Option.some.injEq,Addr.mk.injEq,and_true] at e5;have eg:=e5.1;clear e5;subst eg;clear m0 m1 m2 m3 m4 m5 m6 HN hne KH0 hW7 HH4;rw [if_pos (by rfl)];go_simp;go_wp2;go_roundw
    case rel=>exact ⟨k+1,by go_num,by omega,HN7⟩
    case measure=>simp [intOf];omega
end
section
open Go.RowKit
theorem zfj {cs:List z0H} (hc:∀ c ∈ cs,c.2.2≤1000) (R:Nat):∀ x ∈ z0b cs R,0≤x∧x≤1000:=fun x hx=>⟨z5g cs R x hx,z7m (by omega) cs hc R x hx⟩
theorem zh1 {t:T} {x:Int} (hp:(z0y t x).length ≠ 0):zC t=true∧(0≤x∧x≤300)∧z0y t x=z75 t (z0d t x)∧z52 t x=z19 t (z0d t x) (gOf t).cells:=by
 unfold z0y at hp;unfold z0y z52;by_cases h:(zC t && inB x 0 300)=true
 ·rw [if_pos h,if_pos h];rw [Bool.and_eq_true] at h;exact ⟨h.1,by simpa [inB] using h.2,rfl,rfl⟩
 ·rw [if_neg h] at hp;exact absurd rfl hp
structure HgF (t:T) (RL:List Int) (LL:List (List ByteArray)):Prop where
 len:RL.length=t.rows.length
 lln:LL.length=(gOf t).cells.length
 hold:∀ k,k < (gOf t).cells.length→¬ z7y RL ((gOf t).cells.getD k dG) < ((LL.getD k []).length:Int)
 need:∀ r,r < t.rows.length→RL.getD r 0=0∨∃ k,k < (gOf t).cells.length∧(r:Int)=((gOf t).cells.getD k dG).row+((gOf t).cells.getD k dG).rows - 1∧z7y RL ((gOf t).cells.getD k dG)=((LL.getD k []).length:Int)
 small:∀ k,k < (gOf t).cells.length→(0≤((gOf t).cells.getD k dG).row∧((gOf t).cells.getD k dG).row≤8)∧1≤((gOf t).cells.getD k dG).rows∧((gOf t).cells.getD k dG).rows≤8
def zkq (P:Nat→Bool) (b:Bool):Nat→Bool
 | 0=>b
 | k+1=>zkq P b k || P k
def z2f (t:T) (width:Int) (high:List Int):List (List PgS):=if z4f t width high=true then z3V (high.map (· - (hiS (z0Z t (z0y t width))+hiS (z11 t (z0y t width))))) (z0E t (z0y t width)) else []
theorem z7D {t:T} (hok:zC t=true) {hs:List Int} (hb:∀ x ∈ hs,0≤x∧x≤1000):(z0E t hs).length≤9000:=by
 have h1:=z7Z (t:=t) hb (z06 (gOf t).cells t.rows.length) (zG (gOf t).cells t.rows.length).length;have h2:=z36 (gOf t).cells t.rows.length;have h3:=(z0T hok).1.2;unfold z0E;omega
theorem zaS {t:T} {x:Int}:∀ y ∈ z0y t x,0≤y∧y≤1000:=by
 intro y hy;have hne:(z0y t x).length ≠ 0:=fun h=>by rw [List.eq_nil_of_length_eq_zero h] at hy;cases hy
 obtain ⟨hok,_,e,_⟩:=zh1 hne;rw [e] at hy;exact zfj (ziD t (z0d t x) (gOf t).cells) t.rows.length y hy
theorem zil {t:T} (hD:z0f t) (hok:zC t=true) {hs:List Int} (hb:∀ x ∈ hs,0≤x∧x≤1000) (j:Nat):(∀ k,k≤((z0E t hs).drop j).length→z3m ((((z0E t hs).drop j).take k).foldl zP [])∧((((z0E t hs).drop j).take k).foldl zP []).length≤50000)∧∀ p ∈ (z0E t hs).drop j,z3m p∧p.length≤50000:=by
 refine ⟨fun k _=>?_,fun p hp=>zge hD hok hb (List.mem_of_mem_drop hp)⟩;have e:z0E t hs=(z0E t hs).take j ++ ((z0E t hs).drop j).take k ++ ((z0E t hs).drop j).drop k:=(by rw [List.append_assoc,List.take_append_drop,List.take_append_drop]);have h:=z5O hD hok hb e;exact ⟨h.1,h.2.1⟩
def zjY:Value→Nat
 | .slice _ n _=>n
 | _=>0
def PJ9 (bb B z:Nat) (w0:World) (vh:Value) (bes:Int) (rm:List Int) (pcs:List (List PgS)) (vl:Value) (W:World):Prop :=
 ∃ (j:Nat) (pgs:List (List PgS)) (us:List Value) (a:Option Addr) (c:Nat),(∀ W',BF bb B W W'→z1C W' z vl (pcs.drop j))∧W.heap[bb]?=some (.cells #[.slice a pgs.length c,vh,.int .i64 bes] 68)∧W.ownsRow B 41 1 (.slice a pgs.length c) pgs.length us∧zZ W B us pgs∧BF bb B w0 W ∧
  z3V rm pcs=z5Q rm pgs (pcs.drop j)∧pgs.length≤j+1∧j≤pcs.length
structure PI9 (w:World) (z:Nat) (ac ar:Option Addr) (cc cr:Nat) (t:T) (hs:List Int) (vr:Value) (W:World):Prop where
 below:Below w.heap.size w W
 box:W.heap[w.heap.size]?=some (.cells #[.slice ac t.cols.length cc,.int .i64 t.head,.int .i64 t.foot,.slice ar t.rows.length cr,.int .i64 t.gap] 26)
 ta:TA W z ac ar cc cr t
 hts:zA W vr hs
theorem PI9.kept {w:World} {z:Nat} {ac ar:Option Addr} {cc cr:Nat} {t:T} {hs:List Int} {vr:Value} {W W':World} (h:PI9 w z ac ar cc cr t hs vr W) (k:Below W.heap.size W W'):PI9 w z ac ar cc cr t hs vr W' :=
 ⟨zh h.below k,(k.block _ (bL h.box)).trans h.box,h.ta.kept k,h.hts.kept k⟩
structure PiJ (w:World) (z:Nat) (ac ar:Option Addr) (cc cr:Nat) (t:T) (hs high:List Int) (vr:Value) (ah:Option Addr) (ch:Nat) (W3:World) (L:Nat→Bool) (W:World) (v8 v18 v19 v20 v21 v22 v23 v24 v25 v26 v27 v28 v29:Value):Prop where
 f0:L 0=true→v18=.slice ah high.length ch
 f1:L 1=true→v19=.agg #[.slice ac t.cols.length cc,.int .i64 t.head,.int .i64 t.foot,.slice ar t.rows.length cr,.int .i64 t.gap]
 f2:L 2=true→v20=vr
 f3:L 3=true→zK W W3.heap.size v21 (z0Z t hs)
 f4:L 4=true→v22=.int .i64 (hiS (z0Z t hs))
 f5:L 5=true→v23=.agg #[.slice ac t.cols.length cc,.int .i64 t.head,.int .i64 t.foot,.slice ar t.rows.length cr,.int .i64 t.gap]
 f6:L 6=true→v24=vr
 f7:L 7=true→zK W W3.heap.size v25 (z11 t hs)
 f8:L 8=true→v26=.int .i64 (hiS (z11 t hs))
 f9:L 9=true→v27=.int .i64 (hiS (z0Z t hs)+hiS (z11 t hs))
 f10:L 10=true→v28=.agg #[.slice none 0 0,.slice ah high.length ch,.int .i64 (hiS (z0Z t hs)+hiS (z11 t hs))]
 f11:L 11=true→∃ g,v29=.pointer (some ⟨g,0,none⟩)∧W3.heap.size≤g∧W.heap[g]?=some (.cells #[.slice none 0 0,.slice ah high.length ch,.int .i64 (hiS (z0Z t hs)+hiS (z11 t hs))] 68)
 f12:L 12=true→∃ g,v8=.pointer (some ⟨g,0,none⟩)∧W3.heap.size≤g∧W.heap[g]?=some (.cells #[.slice none 0 0,.slice ah high.length ch,.int .i64 (hiS (z0Z t hs)+hiS (z11 t hs))] 68)∧Below W3.heap.size W3 W
 b:L 12=false→Below W3.heap.size W3 W
theorem zdU (ac ar:Option Addr) (cc cr:Nat) (t:T) (hD:z0f t) (width:Int) (vh:Value) (high:List Int) (w:World) {z:Nat} (hc:z07 w z (.slice ac t.cols.length cc) t.cols) (hr:z01 w z (.slice ar t.rows.length cr) t.rows) (hh:zA w vh high) :
  Calls Tryz.prog 15 #[.agg #[.slice ac t.cols.length cc,.int .i64 t.head,.int .i64 t.foot,.slice ar t.rows.length cr,.int .i64 t.gap],.int .i64 width,vh] w fun e w'=>∃ v us,e=.returned v∧w'.ownsRow w.heap.size 41 1 v us.length us∧zZ w' w.heap.size us (z2f t width high)∧Below w.heap.size w w':=by
 have hmx:Tryz.prog.follows .mixedOrders=true:=(by kernel_rfl);obtain ⟨ah,ch,rfl,_⟩:=hh.form;have HK0:=Hd (ze (Below.refl w.heap.size w) (.cells #[.slice ac t.cols.length cc,.int .i64 t.head,.int .i64 t.foot,.slice ar t.rows.length cr,.int .i64 t.gap] 26));have HX0:=Hd (zj w (.cells #[.slice ac t.cols.length cc,.int .i64 t.head,.int .i64 t.foot,.slice ar t.rows.length cr,.int .i64 t.gap] 26));have HT0:Hid (TA w z ac ar cc cr t):=⟨hc,hr⟩;have HVH:=Hd (fun W (k:Below w.heap.size w W)=>hh.kept k);have hs0:(w.alloc (.cells #[.slice ac t.cols.length cc,.int .i64 t.head,.int .i64 t.foot,.slice ar t.rows.length cr,.int .i64 t.gap] 26)).heap.size=w.heap.size+1:=(by simp);have KO:=Hd (fun W (k:Below w.heap.size w W)=>zh3 ac ar cc cr t width _ high W (HT0.out.kept k).1 (HT0.out.kept k).2 (HVH.out W k));clear hc hr hh;go_enter Tryz.func15,Tryz.ntmps15;go_upto_region 1 with fail
 generalize w.alloc (.cells #[.slice ac t.cols.length cc,.int .i64 t.head,.int .i64 t.foot,.slice ar t.rows.length cr,.int .i64 t.gap] 26)=W0 at HK0 HX0 hs0 ⊢;obtain ⟨b0,b1,b2,b3,b4⟩:=zU HX0.out
 cases hok:z4f t width high with
 | false =>
  rw [hok] at KO;have HF:Hid (z2f t width high=[]):=Hd (by unfold z2f;rw [if_neg (by rw [hok];simp)]);clear hok;go_wp2_with fail
  refine (KO.out _ HK0.out).mono ?_;rintro e w1 ⟨rfl,hb1⟩;have HK1:=Hd (zh HK0.out hb1);clear hb1 b0 b1 b2 b3 b4;go_wp2;go_ret;exact ⟨_,[],rfl,⟨rfl,.inl ⟨rfl,rfl⟩⟩,by rw [HF.out];exact zZ.nil _ _,HK1.out⟩
 | true =>
  rw [hok] at KO;have HF:Hid (z2f t width high=z3V (high.map (· - (hiS (z0Z t (z0y t width))+hiS (z11 t (z0y t width))))) (z0E t (z0y t width))):=Hd (by unfold z2f;rw [if_pos hok]);have hok2:=hok;unfold z4f at hok2;rw [Bool.and_eq_true,Bool.and_eq_true,Bool.and_eq_true] at hok2;obtain ⟨⟨htk,hwd⟩,hln,hhs⟩:=hok2;have hi1:0 < high.length:=(by have h:=of_decide_eq_true hln;omega);have hi2:high.length≤60:=(by have h:=of_decide_eq_true hln;omega);have HHB:Hid (∀ x ∈ high,0≤x∧x≤100):=Hd (fun x hx=>of_decide_eq_true (List.all_eq_true.1 hhs x hx))
  have hRl:(z0y t width).length=t.rows.length:=by
   unfold z0y z75;rw [if_pos (by rw [htk,hwd];rfl),z0N]
  have HRb:=Hd (zaS (t:=t) (x:=width));have hR8:=z0T htk;have KR:=Hd (fun W (h:TA W z ac ar cc cr t)=>z97 ac ar cc cr t hD width W h.1 h.2);generalize z0y t width=hs at HF hRl HRb KR;have KH:=Hd (fun (v:Value) W (h:zA W v hs)=>zeX (.slice ac t.cols.length cc) (.slice ar t.rows.length cr) t htk hs hRl v W h);have KF:=Hd (fun (v:Value) W (h:zA W v hs)=>zeY (.slice ac t.cols.length cc) (.slice ar t.rows.length cr) t htk hs hRl v W h);have hlh:z3m (z0Z t hs):=z7k HRb.out (by omega);have hlf:z3m (z11 t hs):=z7k HRb.out (by omega);have KA:=Hd (fun (v:Value) W z (h:z2I W z v (z0Z t hs))=>(z4w hlh ▸ z5w v (z0Z t hs) W h:Calls Tryz.prog 18 #[v] W fun e w'=>e=.returned (.int .i64 (hiS (z0Z t hs)))∧Below W.heap.size W w'));have KB:=Hd (fun (v:Value) W z (h:z2I W z v (z11 t hs))=>(z4w hlf ▸ z5w v (z11 t hs) W h:Calls Tryz.prog 18 #[v] W fun e w'=>e=.returned (.int .i64 (hiS (z11 t hs)))∧Below W.heap.size W w'));have KC:=Hd (fun (v:Value) W (h:TA W z ac ar cc cr t) (hv:zA W v hs)=>zcy ac ar cc cr t hD htk hs hRl HRb.out v W h.1 h.2 hv);unfold z3m at hlh hlf;have hwr:IntKind.i64.wrap (hiS (z0Z t hs)+hiS (z11 t hs))=hiS (z0Z t hs)+hiS (z11 t hs):=(by rw [IntKind.wrap_i64];omega)
  have hbs:0≤hiS (z0Z t hs)+hiS (z11 t hs)∧hiS (z0Z t hs)+hiS (z11 t hs)≤1000000:=by
   have a1:=z4I HRb.out t.head.toNat 0 (by omega);have a2:=z4I HRb.out t.foot.toNat (t.rows.length - t.foot.toNat) (by omega);unfold z0Z z11;omega
  have HPL:Hid ((z0E t hs).length≤9000):=Hd (z7D htk HRb.out);clear hok hln hhs hwd hRl;go_wp2_with fail
  refine (KO.out _ HK0.out).mono ?_;rintro e w1 ⟨rfl,hb1⟩;have HX1:=Hd ((hb1.block w.heap.size (by omega)).trans HX0.out);have HK1:=Hd (zh HK0.out hb1);have hs1:w.heap.size < w1.heap.size:=(by have:=hb1.size;omega);clear hb1 b0 b1 b2 b3 b4 HX0 HK0 hs0 KO;obtain ⟨b0,b1,b2,b3,b4⟩:=zU HX1.out;go_wp2_with fail
  refine (KR.out _ (HT0.out.kept HK1.out)).mono ?_;rintro e W3 ⟨vr,rfl,hI3,hb3⟩;have HP3:Hid (PI9 w z ac ar cc cr t hs vr W3):=Hd ⟨zh HK1.out hb3,(hb3.block w.heap.size hs1).trans HX1.out,HT0.out.kept (zh HK1.out hb3),hI3.at⟩;have HWz:Hid (w.heap.size≤W3.heap.size):=Hd (by have:=hb3.size;omega);clear hI3 hb3 b0 b1 b2 b3 b4 HX1 HK1 KR hs1;go_upto_region 4 with fail
  refine z0p (fun L act W=>∃ v8 v18 v19 v20 v21 v22 v23 v24 v25 v26 v27 v28 v29:Value,act=⟨#[.agg #[.slice ac t.cols.length cc,.int .i64 t.head,.int .i64 t.foot,.slice ar t.rows.length cr,.int .i64 t.gap],.int .i64 width,.slice ah high.length ch,.pointer (some ⟨w.heap.size,0,none⟩),undef,undef,.slice none 0 0,vr,v8,undef,.agg #[.slice ac t.cols.length cc,.int .i64 t.head,.int .i64 t.foot,.slice ar t.rows.length cr,.int .i64 t.gap],.int .i64 width,.slice ah high.length ch,.bool true,.bool false,.agg #[.slice ac t.cols.length cc,.int .i64 t.head,.int .i64 t.foot,.slice ar t.rows.length cr,.int .i64 t.gap],.int .i64 width,vr,v18,v19,v20,v21,v22,v23,v24,v25,v26,v27,v28,v29,undef,undef,undef,undef,undef,undef,undef,undef,undef,undef,undef,undef,undef,undef,undef],[]⟩∧PiJ w z ac ar cc cr t hs high vr ah ch W3 L W v8 v18 v19 v20 v21 v22 v23 v24 v25 v26 v27 v28 v29) hmx (by kernel_rfl) ?hs ?hd ?h0
  case h0=>exact ⟨_,_,_,_,_,_,_,_,_,_,_,_,_,rfl,⟨(fun h=>by cases h),(fun h=>by cases h),(fun h=>by cases h),(fun h=>by cases h),(fun h=>by cases h),(fun h=>by cases h),(fun h=>by cases h),(fun h=>by cases h),(fun h=>by cases h),(fun h=>by cases h),(fun h=>by cases h),(fun h=>by cases h),(fun h=>by cases h),(fun _=>z1d (Below.refl _ _))⟩⟩
  case hd =>
   intro L act W hJ hall;obtain ⟨v8,v18,v19,v20,v21,v22,v23,v24,v25,v26,v27,v28,v29,ha,J⟩:=hJ;subst ha;obtain ⟨bb,rfl,hbb,hbx,hKB⟩:=J.f12 (hall 12 (by decide));clear J hall;have HP4:=Hd (HP3.out.kept hKB);have HBX:=Hd hbx;have hlb:=(bL hbx);have hsz4:=hKB.size;clear hKB hbx KH KF KA KB HP3 hwr;obtain ⟨b0,b1,b2,b3,b4⟩:=zU HP4.out.box;go_wp2_with fail
   refine (KC.out _ _ HP4.out.ta HP4.out.hts).mono ?_;rintro e w5 ⟨vp,up,rfl,hOp,hRp,hb5⟩;have hPp:z1C w5 W.heap.size vp (z0E t hs):=hRp.pss hOp (Nat.le_refl _) (Nat.le_refl _);have hP5:=HP4.out.kept hb5;have HBX5:=Hd ((hb5.block bb hlb).trans HBX.out);have hlb5:bb < w5.heap.size:=Nat.lt_of_lt_of_le hlb hb5.size;have hw5:w.heap.size≤bb:=Nat.le_trans (HWz.out) hbb;have HB5:=Hd hP5.below;have HCV:Hid (∀ W',BF bb w5.heap.size w5 W'→Below w.heap.size w5 W'):=Hd (fun W' k=>⟨k.os,k.tape,k.output,k.size,fun q hq=>k.block q (by omega) (by omega)⟩);have HV:=Hd (fun W' (k:BF bb w5.heap.size w5 W')=>HVH.out W' (HB5.out.trans (HCV.out W' k)));have HPC:Hid (∀ W',BF bb w5.heap.size w5 W'→z1C W' W.heap.size vp (z0E t hs)):=Hd (fun W' k=>hPp.since ⟨k.size,fun q h1 h2=>k.block q h2 (by omega)⟩);obtain ⟨ap,cp,rfl,_⟩:=At.form hPp;clear hOp hRp hb5 hPp hP5 HP4 HBX KC b0 b1 b2 b3 b4 hbb hlb HWz;have HLL:=Hd (fun (j:Nat)=>zil hD htk HRb.out j);have HRS:=Hd (zhU (high.map (· - (hiS (z0Z t hs)+hiS (z11 t hs)))) (z0E t hs));have HRM:=Hd (fun (pgs left:List (List PgS))=>zgn (rm:=high.map (· - (hiS (z0Z t hs)+hiS (z11 t hs)))) (pgs:=pgs) (left:=left));have hKF1:=zcC bb w5.heap.size W.heap.size none 0 0 (.slice ah high.length ch) (.slice ap (z0E t hs).length cp) high (hiS (z0Z t hs)+hiS (z11 t hs)) [] [] (z0E t hs) rfl (by omega) (by have:=HPL.out;omega) hi1 hi2 HHB.out hbs (by have:=(HLL.out 0).1;simpa using this) (by have:=(HLL.out 0).2;simpa using this) w5 (Nat.le_refl _) HBX5.out HV.out ⟨rfl,.inl ⟨rfl,rfl⟩⟩ (zZ.nil _ _) HPC.out;obtain ⟨j0,hj0,e0,_⟩:=z88 (zH (high.map (· - (hiS (z0Z t hs)+hiS (z11 t hs)))) 0) (z0E t hs) [];rw [e0] at hKF1 HRS;generalize (z1F (zH (high.map (· - (hiS (z0Z t hs)+hiS (z11 t hs)))) 0) [] (z0E t hs)).1=pg0 at hKF1 HRS;have KF1:=Hd hKF1;have HHI:Hid (0 < high.length∧high.length≤60):=Hd ⟨hi1,hi2⟩;clear hKF1 e0;go_wp2_with fail
   refine KF1.out.mono ?_;rintro e w6 ⟨vl,us,a,c,rfl,hL,hB6,hO6,hR6,hK6⟩;have H6:Hid (PJ9 bb w5.heap.size W.heap.size w5 (.slice ah high.length ch) (hiS (z0Z t hs)+hiS (z11 t hs)) (high.map (· - (hiS (z0Z t hs)+hiS (z11 t hs)))) (z0E t hs) vl w6):=Hd ⟨j0,[pg0],us,a,c,hL,hB6,hO6,hR6,hK6,HRS.out,by simp,hj0⟩;clear hL hB6 hO6 hR6 hK6 KF1 HRS HBX5;obtain ⟨pcs,hpcs⟩:∃ pcs,z0E t hs=pcs:=⟨_,rfl⟩;rw [hpcs] at H6 HPL HPC HLL HF;clear hpcs;generalize hiS (z0Z t hs)+hiS (z11 t hs)=bes at H6 HRM HF hbs HLL ⊢;go_wp2_with fail
   go_loopw [9] (fun v W'=>Hid (PJ9 bb w5.heap.size W.heap.size w5 (.slice ah high.length ch) bes (high.map (· - bes)) pcs v W')) (fun v _=>zjY v)
   case atStart=>exact H6
   case round =>
    clear H6;obtain ⟨j,pgs,us2,a2,c2,hL,hB,hO,hR,hK,hE,hn,hj⟩:=Hid.out hrel;obtain ⟨al,cl,rfl,hll⟩:=At.form (hL wr (BF.of_below (Below.refl _ _) hK.size));have hld:(pcs.drop j).length=pcs.length - j:=List.length_drop;rw [hld] at hL ⊢;by_cases hz:j=pcs.length
    case pos =>
     have hz2:pcs.length - j=0:=(by omega);rw [hz2] at hL ⊢;have hd:pcs.drop j=[]:=(by rw [hz,List.drop_length]);rw [hd,zhV] at hE;have HE:=Hd (HF.out.trans hE);have HO:=Hd (z9d hO (by omega:w.heap.size≤w5.heap.size));have HR:=Hd (hR.base (by omega:w.heap.size≤w5.heap.size));have HK:=Hd (HB5.out.trans (HCV.out _ hK));have HUl:=Hd (hR.1);have g0:wr.cell? ⟨bb,0,none⟩=some (.slice a2 pgs.length c2):=zf hB;clear hL hB hO hR hK hE hn hj hll hld hrel hz hz2 hd;go_wp2;go_ret;exact ⟨_,us2,rfl,by rw [HUl.out];exact HO.out,by rw [HE.out];exact HR.out,HK.out⟩
    have hne:pcs.drop j ≠ []:=fun e=>by rw [e,List.length_nil] at hld;omega
    have hpos:(0:Int) < ((pcs.length - j:Nat):Int):=(by omega);have hE2:=hE.trans (HRM.out pgs (pcs.drop j) hne);have hpl:=HPL.out;have hKF:=zcC bb w5.heap.size W.heap.size a2 pgs.length c2 (.slice ah high.length ch) (.slice al (pcs.length - j) cl) high bes us2 pgs (pcs.drop j) rfl (by omega) (by omega) HHI.out.1 HHI.out.2 HHB.out hbs (HLL.out j).1 (HLL.out j).2 wr hK.size hB (fun W' k=>HV.out W' (hK.trans k)) hO hR hL
    obtain ⟨q,ql,eq⟩:∃ q ql,pcs.drop j=q :: ql:=by
     cases hx:pcs.drop j with
     | nil=>exact absurd hx hne
     | cons q ql=>exact ⟨q,ql,rfl⟩
    obtain ⟨j2,hj2,hj3,e2⟩:=zgo (room:=zH (high.map (· - bes)) pgs.length) (p:=q) (ps:=ql);rw [← eq] at e2 hj3;rw [hld] at hj3;rw [List.drop_drop] at e2;rw [e2] at hKF hE2;generalize (z1F (zH (high.map (· - bes)) pgs.length) [] (pcs.drop j)).1=pg1 at hKF hE2;have KF:=Hd hKF;have HE:=Hd hE2;have HKr:=Hd hK;have hn2:pgs.length≤10000:=(by omega);clear hL hB hO hR hK hE hE2 hKF e2 eq hll hld hrel hne;go_wp2_with fail
    refine KF.out.mono ?_;rintro e w7 ⟨vl2,us3,a3,c3,rfl,hL3,hB3,hO3,hR3,hK3⟩;have H7:Hid (PJ9 bb w5.heap.size W.heap.size w5 (.slice ah high.length ch) bes (high.map (· - bes)) pcs vl2 w7):=Hd ⟨j+j2,pgs ++ [pg1],us3,a3,c3,hL3,by rw [List.length_append];exact hB3,by rw [List.length_append];exact hO3,hR3,HKr.out.trans hK3,HE.out,by rw [List.length_append];simp;omega,by omega⟩;obtain ⟨al3,cl3,e3,_⟩:=At.form (hL3 w7 (BF.of_below (Below.refl _ _) (Nat.le_trans HKr.out.size hK3.size)));rw [List.length_drop] at e3;subst e3;clear hL3 hB3 hO3 hR3 hK3 KF;go_wp2;go_roundw
    case rel=>exact H7
    case measure=>simp [zjY];omega
  case hs =>
   intro L act W i o hJ hcl ho hLi haft K hK;obtain ⟨v8,v18,v19,v20,v21,v22,v23,v24,v25,v26,v27,v28,v29,ha,J⟩:=hJ;subst ha
   have hi':i < 13:=by
    have:=(bL ho)
    simpa using this
   rcases (by omega:i=0∨i=1∨i=2∨i=3∨i=4∨i=5∨i=6∨i=7∨i=8∨i=9∨i=10∨i=11∨i=12) with rfl | rfl | rfl | rfl | rfl | rfl | rfl | rfl | rfl | rfl | rfl | rfl | rfl
   all_goals
    simp only [List.getElem?_toArray,List.getElem?_cons_zero,List.getElem?_cons_succ,Option.some.injEq] at ho;subst ho;clear hi'
   ·have hN:=(Qh hcl 12 11 (Qh hcl 11 10 (Qh hcl 10 0 hLi)));have hB:=J.b hN;go_simp;exact hK _ _ ⟨_,_,_,_,_,_,_,_,_,_,_,_,_,rfl,⟨(fun _=>rfl),uq J.f1,uq J.f2,(fun h=>(J.f3 (un h))),uq J.f4,uq J.f5,uq J.f6,(fun h=>(J.f7 (un h))),uq J.f8,uq J.f9,(fun h=>absurd (((Qh hcl 10 0 hLi)).symm.trans (un h)) (by simp)),(fun h=>absurd (((Qh hcl 11 10 (Qh hcl 10 0 hLi))).symm.trans (un h)) (by simp)),(fun h=>absurd (((Qh hcl 12 11 (Qh hcl 11 10 (Qh hcl 10 0 hLi)))).symm.trans (un h)) (by simp)),(fun _=>hB)⟩⟩
   ·have hN:=(Qh hcl 12 11 (Qh hcl 11 10 (Qh hcl 10 9 (Qh hcl 9 4 (Qh hcl 4 3 (Qh hcl 3 1 hLi))))));have hB:=J.b hN;obtain ⟨b0,b1,b2,b3,b4⟩:=zU (HP3.out.kept hB).box;go_simp;exact hK _ _ ⟨_,_,_,_,_,_,_,_,_,_,_,_,_,rfl,⟨uq J.f0,(fun _=>rfl),uq J.f2,(fun h=>absurd (((Qh hcl 3 1 hLi)).symm.trans (un h)) (by simp)),(fun h=>absurd (((Qh hcl 4 3 (Qh hcl 3 1 hLi))).symm.trans (un h)) (by simp)),uq J.f5,uq J.f6,(fun h=>(J.f7 (un h))),uq J.f8,(fun h=>absurd (((Qh hcl 9 4 (Qh hcl 4 3 (Qh hcl 3 1 hLi)))).symm.trans (un h)) (by simp)),(fun h=>absurd (((Qh hcl 10 9 (Qh hcl 9 4 (Qh hcl 4 3 (Qh hcl 3 1 hLi))))).symm.trans (un h)) (by simp)),(fun h=>absurd (((Qh hcl 11 10 (Qh hcl 10 9 (Qh hcl 9 4 (Qh hcl 4 3 (Qh hcl 3 1 hLi)))))).symm.trans (un h)) (by simp)),(fun h=>absurd (((Qh hcl 12 11 (Qh hcl 11 10 (Qh hcl 10 9 (Qh hcl 9 4 (Qh hcl 4 3 (Qh hcl 3 1 hLi))))))).symm.trans (un h)) (by simp)),(fun _=>hB)⟩⟩
   ·have hN:=(Qh hcl 12 11 (Qh hcl 11 10 (Qh hcl 10 9 (Qh hcl 9 4 (Qh hcl 4 3 (Qh hcl 3 2 hLi))))));have hB:=J.b hN;go_simp;exact hK _ _ ⟨_,_,_,_,_,_,_,_,_,_,_,_,_,rfl,⟨uq J.f0,uq J.f1,(fun _=>rfl),(fun h=>absurd (((Qh hcl 3 2 hLi)).symm.trans (un h)) (by simp)),(fun h=>absurd (((Qh hcl 4 3 (Qh hcl 3 2 hLi))).symm.trans (un h)) (by simp)),uq J.f5,uq J.f6,(fun h=>(J.f7 (un h))),uq J.f8,(fun h=>absurd (((Qh hcl 9 4 (Qh hcl 4 3 (Qh hcl 3 2 hLi)))).symm.trans (un h)) (by simp)),(fun h=>absurd (((Qh hcl 10 9 (Qh hcl 9 4 (Qh hcl 4 3 (Qh hcl 3 2 hLi))))).symm.trans (un h)) (by simp)),(fun h=>absurd (((Qh hcl 11 10 (Qh hcl 10 9 (Qh hcl 9 4 (Qh hcl 4 3 (Qh hcl 3 2 hLi)))))).symm.trans (un h)) (by simp)),(fun h=>absurd (((Qh hcl 12 11 (Qh hcl 11 10 (Qh hcl 10 9 (Qh hcl 9 4 (Qh hcl 4 3 (Qh hcl 3 2 hLi))))))).symm.trans (un h)) (by simp)),(fun _=>hB)⟩⟩
   ·have hN:=(Qh hcl 12 11 (Qh hcl 11 10 (Qh hcl 10 9 (Qh hcl 9 4 (Qh hcl 4 3 hLi)))));have hB:=J.b hN;obtain rfl:=J.f1 (Fa haft 1);obtain rfl:=J.f2 (Fa haft 2);have hw:=(HP3.out.kept hB).hts;have hsz:=hB.size;go_simp;go_wp2_with (go_at_call 31;refine (KH.out _ _ hw).mono ?_;rintro e W2 ⟨u,rfl,hU,hb⟩)
    exact ⟨_,_,_,_,_,_,_,_,_,_,_,_,_,rfl,⟨uq J.f0,uq J.f1,uq J.f2,(fun _=>hU.base hsz),(fun h=>absurd (((Qh hcl 4 3 hLi)).symm.trans (un h)) (by simp)),uq J.f5,uq J.f6,(fun h=>((J.f7 (un h))).kept hb),uq J.f8,(fun h=>absurd (((Qh hcl 9 4 (Qh hcl 4 3 hLi))).symm.trans (un h)) (by simp)),(fun h=>absurd (((Qh hcl 10 9 (Qh hcl 9 4 (Qh hcl 4 3 hLi)))).symm.trans (un h)) (by simp)),(fun h=>absurd (((Qh hcl 11 10 (Qh hcl 10 9 (Qh hcl 9 4 (Qh hcl 4 3 hLi))))).symm.trans (un h)) (by simp)),(fun h=>absurd (((Qh hcl 12 11 (Qh hcl 11 10 (Qh hcl 10 9 (Qh hcl 9 4 (Qh hcl 4 3 hLi)))))).symm.trans (un h)) (by simp)),(fun _=>zh hB hb)⟩⟩
   ·have hN:=(Qh hcl 12 11 (Qh hcl 11 10 (Qh hcl 10 9 (Qh hcl 9 4 hLi))));have hB:=J.b hN;have hU:=J.f3 (Fa haft 3);go_simp;go_wp2_with (go_at_call 18;refine (KA.out _ _ _ hU.at).mono ?_;rintro e W2 ⟨rfl,hb⟩)
    exact ⟨_,_,_,_,_,_,_,_,_,_,_,_,_,rfl,⟨uq J.f0,uq J.f1,uq J.f2,(fun h=>((J.f3 (un h))).kept hb),(fun _=>rfl),uq J.f5,uq J.f6,(fun h=>((J.f7 (un h))).kept hb),uq J.f8,(fun h=>absurd (((Qh hcl 9 4 hLi)).symm.trans (un h)) (by simp)),(fun h=>absurd (((Qh hcl 10 9 (Qh hcl 9 4 hLi))).symm.trans (un h)) (by simp)),(fun h=>absurd (((Qh hcl 11 10 (Qh hcl 10 9 (Qh hcl 9 4 hLi)))).symm.trans (un h)) (by simp)),(fun h=>absurd (((Qh hcl 12 11 (Qh hcl 11 10 (Qh hcl 10 9 (Qh hcl 9 4 hLi))))).symm.trans (un h)) (by simp)),(fun _=>zh hB hb)⟩⟩
   ·have hN:=(Qh hcl 12 11 (Qh hcl 11 10 (Qh hcl 10 9 (Qh hcl 9 8 (Qh hcl 8 7 (Qh hcl 7 5 hLi))))));have hB:=J.b hN;obtain ⟨b0,b1,b2,b3,b4⟩:=zU (HP3.out.kept hB).box;go_simp;exact hK _ _ ⟨_,_,_,_,_,_,_,_,_,_,_,_,_,rfl,⟨uq J.f0,uq J.f1,uq J.f2,(fun h=>(J.f3 (un h))),uq J.f4,(fun _=>rfl),uq J.f6,(fun h=>absurd (((Qh hcl 7 5 hLi)).symm.trans (un h)) (by simp)),(fun h=>absurd (((Qh hcl 8 7 (Qh hcl 7 5 hLi))).symm.trans (un h)) (by simp)),(fun h=>absurd (((Qh hcl 9 8 (Qh hcl 8 7 (Qh hcl 7 5 hLi)))).symm.trans (un h)) (by simp)),(fun h=>absurd (((Qh hcl 10 9 (Qh hcl 9 8 (Qh hcl 8 7 (Qh hcl 7 5 hLi))))).symm.trans (un h)) (by simp)),(fun h=>absurd (((Qh hcl 11 10 (Qh hcl 10 9 (Qh hcl 9 8 (Qh hcl 8 7 (Qh hcl 7 5 hLi)))))).symm.trans (un h)) (by simp)),(fun h=>absurd (((Qh hcl 12 11 (Qh hcl 11 10 (Qh hcl 10 9 (Qh hcl 9 8 (Qh hcl 8 7 (Qh hcl 7 5 hLi))))))).symm.trans (un h)) (by simp)),(fun _=>hB)⟩⟩
   ·have hN:=(Qh hcl 12 11 (Qh hcl 11 10 (Qh hcl 10 9 (Qh hcl 9 8 (Qh hcl 8 7 (Qh hcl 7 6 hLi))))));have hB:=J.b hN;go_simp;exact hK _ _ ⟨_,_,_,_,_,_,_,_,_,_,_,_,_,rfl,⟨uq J.f0,uq J.f1,uq J.f2,(fun h=>(J.f3 (un h))),uq J.f4,uq J.f5,(fun _=>rfl),(fun h=>absurd (((Qh hcl 7 6 hLi)).symm.trans (un h)) (by simp)),(fun h=>absurd (((Qh hcl 8 7 (Qh hcl 7 6 hLi))).symm.trans (un h)) (by simp)),(fun h=>absurd (((Qh hcl 9 8 (Qh hcl 8 7 (Qh hcl 7 6 hLi)))).symm.trans (un h)) (by simp)),(fun h=>absurd (((Qh hcl 10 9 (Qh hcl 9 8 (Qh hcl 8 7 (Qh hcl 7 6 hLi))))).symm.trans (un h)) (by simp)),(fun h=>absurd (((Qh hcl 11 10 (Qh hcl 10 9 (Qh hcl 9 8 (Qh hcl 8 7 (Qh hcl 7 6 hLi)))))).symm.trans (un h)) (by simp)),(fun h=>absurd (((Qh hcl 12 11 (Qh hcl 11 10 (Qh hcl 10 9 (Qh hcl 9 8 (Qh hcl 8 7 (Qh hcl 7 6 hLi))))))).symm.trans (un h)) (by simp)),(fun _=>hB)⟩⟩
   ·have hN:=(Qh hcl 12 11 (Qh hcl 11 10 (Qh hcl 10 9 (Qh hcl 9 8 (Qh hcl 8 7 hLi)))));have hB:=J.b hN;obtain rfl:=J.f5 (Fa haft 5);obtain rfl:=J.f6 (Fa haft 6);have hw:=(HP3.out.kept hB).hts;have hsz:=hB.size;go_simp;go_wp2_with (go_at_call 32;refine (KF.out _ _ hw).mono ?_;rintro e W2 ⟨u,rfl,hU,hb⟩)
    exact ⟨_,_,_,_,_,_,_,_,_,_,_,_,_,rfl,⟨uq J.f0,uq J.f1,uq J.f2,(fun h=>((J.f3 (un h))).kept hb),uq J.f4,uq J.f5,uq J.f6,(fun _=>hU.base hsz),(fun h=>absurd (((Qh hcl 8 7 hLi)).symm.trans (un h)) (by simp)),(fun h=>absurd (((Qh hcl 9 8 (Qh hcl 8 7 hLi))).symm.trans (un h)) (by simp)),(fun h=>absurd (((Qh hcl 10 9 (Qh hcl 9 8 (Qh hcl 8 7 hLi)))).symm.trans (un h)) (by simp)),(fun h=>absurd (((Qh hcl 11 10 (Qh hcl 10 9 (Qh hcl 9 8 (Qh hcl 8 7 hLi))))).symm.trans (un h)) (by simp)),(fun h=>absurd (((Qh hcl 12 11 (Qh hcl 11 10 (Qh hcl 10 9 (Qh hcl 9 8 (Qh hcl 8 7 hLi)))))).symm.trans (un h)) (by simp)),(fun _=>zh hB hb)⟩⟩
   ·have hN:=(Qh hcl 12 11 (Qh hcl 11 10 (Qh hcl 10 9 (Qh hcl 9 8 hLi))));have hB:=J.b hN;have hU:=J.f7 (Fa haft 7);go_simp;go_wp2_with (go_at_call 18;refine (KB.out _ _ _ hU.at).mono ?_;rintro e W2 ⟨rfl,hb⟩)
    exact ⟨_,_,_,_,_,_,_,_,_,_,_,_,_,rfl,⟨uq J.f0,uq J.f1,uq J.f2,(fun h=>((J.f3 (un h))).kept hb),uq J.f4,uq J.f5,uq J.f6,(fun h=>((J.f7 (un h))).kept hb),(fun _=>rfl),(fun h=>absurd (((Qh hcl 9 8 hLi)).symm.trans (un h)) (by simp)),(fun h=>absurd (((Qh hcl 10 9 (Qh hcl 9 8 hLi))).symm.trans (un h)) (by simp)),(fun h=>absurd (((Qh hcl 11 10 (Qh hcl 10 9 (Qh hcl 9 8 hLi)))).symm.trans (un h)) (by simp)),(fun h=>absurd (((Qh hcl 12 11 (Qh hcl 11 10 (Qh hcl 10 9 (Qh hcl 9 8 hLi))))).symm.trans (un h)) (by simp)),(fun _=>zh hB hb)⟩⟩
   ·have hN:=(Qh hcl 12 11 (Qh hcl 11 10 (Qh hcl 10 9 hLi)));have hB:=J.b hN;obtain rfl:=J.f4 (Fa haft 4);obtain rfl:=J.f8 (Fa haft 8);go_simp;exact hK _ _ ⟨_,_,_,_,_,_,_,_,_,_,_,_,_,rfl,⟨uq J.f0,uq J.f1,uq J.f2,(fun h=>(J.f3 (un h))),uq J.f4,uq J.f5,uq J.f6,(fun h=>(J.f7 (un h))),uq J.f8,(fun _=>rfl),(fun h=>absurd (((Qh hcl 10 9 hLi)).symm.trans (un h)) (by simp)),(fun h=>absurd (((Qh hcl 11 10 (Qh hcl 10 9 hLi))).symm.trans (un h)) (by simp)),(fun h=>absurd (((Qh hcl 12 11 (Qh hcl 11 10 (Qh hcl 10 9 hLi)))).symm.trans (un h)) (by simp)),(fun _=>hB)⟩⟩
   ·have hN:=(Qh hcl 12 11 (Qh hcl 11 10 hLi));have hB:=J.b hN;obtain rfl:=J.f0 (Fa haft 0);obtain rfl:=J.f9 (Fa haft 9);go_simp;exact hK _ _ ⟨_,_,_,_,_,_,_,_,_,_,_,_,_,rfl,⟨uq J.f0,uq J.f1,uq J.f2,(fun h=>(J.f3 (un h))),uq J.f4,uq J.f5,uq J.f6,(fun h=>(J.f7 (un h))),uq J.f8,uq J.f9,(fun _=>rfl),(fun h=>absurd (((Qh hcl 11 10 hLi)).symm.trans (un h)) (by simp)),(fun h=>absurd (((Qh hcl 12 11 (Qh hcl 11 10 hLi))).symm.trans (un h)) (by simp)),(fun _=>hB)⟩⟩
   ·have hN:=(Qh hcl 12 11 hLi);have hB:=J.b hN;obtain rfl:=J.f10 (Fa haft 10);have hsz:=hB.size;go_simp;exact hK _ _ ⟨_,_,_,_,_,_,_,_,_,_,_,_,_,rfl,⟨uq J.f0,uq J.f1,uq J.f2,(fun h=>((J.f3 (un h))).kept (ze (Below.refl _ _) _)),uq J.f4,uq J.f5,uq J.f6,(fun h=>((J.f7 (un h))).kept (ze (Below.refl _ _) _)),uq J.f8,uq J.f9,uq J.f10,(fun _=>⟨_,rfl,hsz,zj _ _⟩),(fun h=>absurd (((Qh hcl 12 11 hLi)).symm.trans (un h)) (by simp)),(fun _=>ze hB _)⟩⟩
   ·have hN:=hLi;have hB:=J.b hN;obtain ⟨g,rfl,hg,hx⟩:=J.f11 (Fa haft 11);go_simp;exact hK _ _ ⟨_,_,_,_,_,_,_,_,_,_,_,_,_,rfl,⟨uq J.f0,uq J.f1,uq J.f2,(fun h=>(J.f3 (un h))),uq J.f4,uq J.f5,uq J.f6,(fun h=>(J.f7 (un h))),uq J.f8,uq J.f9,uq J.f10,uq J.f11,(fun _=>⟨g,rfl,hg,hx,hB⟩),(fun h=>absurd (h.symm.trans zI) (by simp))⟩⟩
structure zkJ (t:T) (hs:List Int) (pss:List (List PgS)) (E:Nat):Prop where
 tl:(t.rows.length:Int) - t.foot=E
 hd:0≤t.head∧t.head≤E
 le:E≤t.rows.length
 run:z1r hs ⟨t.head,0,false⟩ pss.flatten
 ready:z4n hs (z1Z hs ⟨t.head,0,false⟩ pss.flatten) E
 rows:∀ s ∈ pss.flatten,t.head≤s.r∧s.r < E
def zkK (hs:List Int) (p:Pos) (pss:List (List PgS)) (i k:Nat):Pos:=z1Z hs p ((pss.take i).flatten ++ (pss.getD i []).take k)
structure SP (w:World) (tb:Nat) (ac ar:Option Addr) (cc cr:Nat) (t:T) (vh:Value) (high:List Int) (W:World):Prop where
 st:St w tb ac ar cc cr t W
 hi:zA W vh high
theorem SP.kept {w W W':World} {tb:Nat} {ac ar:Option Addr} {cc cr:Nat} {t:T} {vh:Value} {high:List Int} (h:SP w tb ac ar cc cr t vh high W) (k:Below W.heap.size W W'):SP w tb ac ar cc cr t vh high W':=⟨h.st.kept k,h.hi.kept k⟩
theorem zh4 {t:T} {width:Int} {high:List Int} (h:z4f t width high=false):z2f t width high=[]:=by unfold z2f;rw [if_neg (by rw [h];simp)]
def zkL (hs:List Int) (E:Nat) (p:Pos) (s:PgS):Prop :=
 (∃ n:Nat,p.row=n∧n < E∧s.r=n∧s.f=p.line∧¬ s.t < s.f∧¬ hs.getD n 0 < s.t∧(s.f=s.t→¬ 0 < hs.getD n 0)∧z4m hs p s=⟨n,s.t,true⟩)
 ∨ (∃ n m:Nat,p.row=n∧(n:Int)+1=m∧n < E∧m < E∧p.seen=true∧p.line=hs.getD n 0∧s.r=m∧s.f=0∧¬ s.t < s.f∧¬ hs.getD m 0 < s.t∧(s.f=s.t→¬ 0 < hs.getD m 0)∧z4m hs p s=⟨m,s.t,true⟩)
end
section
open Go.RowKit Go.BigFrame
theorem zh6 (R C:Int) (ac:Option Addr) (cc:Nat) (gs:List GC) (w:World) {z:Nat} (h:z1J w z (.slice ac gs.length cc) gs) :
  Calls Tryz.prog 121 #[.agg #[.int .i64 R,.int .i64 C,.slice ac gs.length cc]] w fun e w'=>e=.returned (.bool (okB ⟨R,C,gs⟩))∧Below w.heap.size w w':=by
 obtain ⟨_,_,_,hlen⟩:=At.form h;unfold maxLen at hlen;have K0:=Hd (ze (Below.refl w.heap.size w) (.cells #[.int .i64 R,.int .i64 C,.slice ac gs.length cc] 38));have X0:=Hd (zj w (.cells #[.int .i64 R,.int .i64 C,.slice ac gs.length cc] 38));have H:=Hd h;have hmx:Tryz.prog.follows .mixedOrders=true:=(by kernel_rfl);have Q1:=Hd (z0n R 1 8);have Q2:=Hd (z0n C 1 94);clear h
 cases p1:inB R 1 8 with
 | false =>
  have HF:Hid (okB ⟨R,C,gs⟩=false):=z7e (by simp only [z3X,p1,Bool.false_and]);rw [p1] at Q1;go_enter Tryz.func121,Tryz.ntmps121;go_wp2_with fail
  refine (Q1.out _).mono ?_;rintro e w1 ⟨rfl,rfl⟩;go_wp2;go_ret;exact ⟨zN HF.out.symm,K0.out⟩
 | true =>
  rw [p1] at Q1
  cases p2:inB C 1 94 with
  | false =>
   have HF:Hid (okB ⟨R,C,gs⟩=false):=z7e (by simp only [z3X,p2,Bool.false_and,Bool.and_false]);rw [p2] at Q2;go_enter Tryz.func121,Tryz.ntmps121;go_wp2_with fail
   refine (Q1.out _).mono ?_;rintro e w1 ⟨rfl,rfl⟩;go_wp2_with fail
   refine (Q2.out _).mono ?_;rintro e w1 ⟨rfl,rfl⟩;go_wp2;go_ret;exact ⟨zN HF.out.symm,K0.out⟩
  | true =>
   rw [p2] at Q2;by_cases p3:gs.length≤40
   ·have HBB:=Hd (z7V p1 p2 p3);obtain ⟨hR1,hR2,hC1,hC2,hn⟩:=zaZ HBB.out;have p3':¬ (40:Int) < (gs.length:Int):=(by omega);clear p1 p2;go_enter Tryz.func121,Tryz.ntmps121;go_wp2_with fail
    refine (Q1.out _).mono ?_;rintro e w1 ⟨rfl,rfl⟩;go_wp2_with fail
    refine (Q2.out _).mono ?_;rintro e w1 ⟨rfl,rfl⟩;go_wp2_with fail
    go_loopw [3] (fun i W=>∃ k:Nat,k≤gs.length∧i=.int .i64 k∧Hid (z6c R C gs k=true)∧Hid (Below w.heap.size w W)∧Hid (W.heap[w.heap.size]?=some (.cells #[.int .i64 R,.int .i64 C,.slice ac gs.length cc] 38))) (fun i _=>gs.length - (intOf i).toNat)
    case atStart=>exact ⟨0,Nat.zero_le _,rfl,zfH _ _ _,K0.out,X0.out⟩
    case round =>
     obtain ⟨k,hk,rfl,HO,HB,HX⟩:=hrel;have g2':wr.cell? ⟨w.heap.size,2,none⟩=some (.slice ac gs.length cc):=zf HX.out;have hz:w.heap.size < wr.heap.size:=(bL HX.out);by_cases hlt:k < gs.length
     ·have hlt':(k:Int) < (gs.length:Int):=(by omega);have h0':(0:Int)≤(k:Int):=(by omega);obtain ⟨q,off,cap',e',hc1,hc2,hbl,hx,hs⟩:=At.get (H.out.kept HB.out) hlt;simp only [Value.slice.injEq,true_and] at e';obtain ⟨rfl,rfl⟩:=e';have HN:Hid (z0X R C (gs.getD k dG)=true→z1f (gs.take k) (gs.getD k dG)=true→z6c R C gs (k+1)=true):=fun h1 h2=>zfI HO.out h1 h2;have HF:Hid ((z0X R C (gs.getD k dG) && z1f (gs.take k) (gs.getD k dG))=false→okB ⟨R,C,gs⟩=false):=fun h1=>zeI (zeH hlt h1);have HFit:=Hd (zb1 (Nat.le_of_lt hlt) HO.out);generalize gs.getD k dG=x at hx hs HN HF;obtain ⟨x0,x1,x2,x3,x4⟩:=hx;obtain ⟨b0,b1,b2,b3,b4⟩:=hs;unfold I64 at b0 b1 b2 b3 b4;unfold maxLen at hc2;go_wp2_with fail
      obtain ⟨W1,hW1⟩:∃ W1,wr.alloc (.cells #[.int .i64 x.row,.int .i64 x.col,.int .i64 x.rows,.int .i64 x.cols,.int .i64 x.ins] 51)=W1:=⟨_,rfl⟩;rw [hW1];have hs1:W1.heap.size=wr.heap.size+1:=(by rw [← hW1];simp);have HB1:Hid (Below w.heap.size w W1):=(by rw [← hW1];exact ze HB.out _);have HX1:Hid (W1.heap[w.heap.size]?=some (.cells #[.int .i64 R,.int .i64 C,.slice (some ⟨q,off,none⟩) gs.length cc] 38)):=(by rw [← hW1];exact (Below.heap_alloc _ _ _ hz).trans HX.out);have HY1:Hid (W1.heap[wr.heap.size]?=some (.cells #[.int .i64 x.row,.int .i64 x.col,.int .i64 x.rows,.int .i64 x.cols,.int .i64 x.ins] 51)):=(by rw [← hW1];exact zj _ _);have zw:w.heap.size < W1.heap.size:=(by omega);have zr:wr.heap.size < W1.heap.size:=(by omega);clear hW1 HB HX;have g0:=zi (a:=⟨w.heap.size,0,none⟩) (v:=.int .i64 R) zw (zf HX1.out);have g1:=zi (a:=⟨w.heap.size,1,none⟩) (v:=.int .i64 C) zw (zf HX1.out);have g2:=zi (a:=⟨w.heap.size,2,none⟩) (v:=.slice (some ⟨q,off,none⟩) gs.length cc) zw (zf HX1.out);have y0:=zi (a:=⟨wr.heap.size,0,none⟩) (v:=.int .i64 x.row) zr (zf HY1.out);have y1:=zi (a:=⟨wr.heap.size,1,none⟩) (v:=.int .i64 x.col) zr (zf HY1.out);have y2:=zi (a:=⟨wr.heap.size,2,none⟩) (v:=.int .i64 x.rows) zr (zf HY1.out);have y3:=zi (a:=⟨wr.heap.size,3,none⟩) (v:=.int .i64 x.cols) zr (zf HY1.out);have y4:=zi (a:=⟨wr.heap.size,4,none⟩) (v:=.int .i64 x.ins) zr (zf HY1.out);have hne:=z0v W1;have r1:IntKind.i64.wrap (R - 1)=R - 1:=(by rw [IntKind.wrap_i64];omega);have r2:IntKind.i64.wrap (C - 1)=C - 1:=(by rw [IntKind.wrap_i64];omega)
      cases h1:inB x.row 0 (R - 1) with
      | false =>
       have HF':=Hd (HF.out (by simp only [z0X,h1,Bool.false_and]));clear HN HF HO HFit;refine zn hmx (by kernel_rfl) ?_;repeat (go_big_quiet_step (first | (go_at_call 36;refine z1N (z0n _ _ _ _))))
       refine wpQuiet_nil ?_;intro _ hw';obtain ⟨⟨W7,hW7⟩,hw''⟩:=hw';subst hw'';have HB7:=Hd (zh HB1.out hW7);clear hW7;go_wp2;go_ret;exact ⟨zN HF'.out.symm,HB7.out⟩
      | true =>
       have r3:IntKind.i64.wrap (R - x.row)=R - x.row:=by
        have:=of_decide_eq_true h1;rw [IntKind.wrap_i64];omega
       cases h2:inB x.col 0 (C - 1) with
       | false =>
        have HF':=Hd (HF.out (by simp only [z0X,h2,Bool.false_and,Bool.and_false]));clear HN HF HO HFit;refine zn hmx (by kernel_rfl) ?_;repeat (go_big_quiet_step (first | (go_at_call 36;refine z1N (z0n _ _ _ _))))
        refine wpQuiet_nil ?_;intro _ hw';obtain ⟨⟨W7,hW7⟩,hw''⟩:=hw';subst hw'';have HB7:=Hd (zh HB1.out hW7);clear hW7;go_wp2;go_ret;exact ⟨zN HF'.out.symm,HB7.out⟩
       | true =>
        have r4:IntKind.i64.wrap (C - x.col)=C - x.col:=by
         have:=of_decide_eq_true h2;rw [IntKind.wrap_i64];omega
        cases h3:inB x.rows 1 (R - x.row) with
        | false =>
         have HF':=Hd (HF.out (by simp only [z0X,h3,Bool.false_and,Bool.and_false]));clear HN HF HO HFit;refine zn hmx (by kernel_rfl) ?_;repeat (go_big_quiet_step (first | (go_at_call 36;refine z1N (z0n _ _ _ _))))
         refine wpQuiet_nil ?_;intro _ hw';obtain ⟨⟨W7,hW7⟩,hw''⟩:=hw';subst hw'';have HB7:=Hd (zh HB1.out hW7);clear hW7;go_wp2;go_ret;exact ⟨zN HF'.out.symm,HB7.out⟩
        | true =>
         cases h4:inB x.cols 1 (C - x.col) with
         | false =>
          have HF':=Hd (HF.out (by simp only [z0X,h4,Bool.false_and,Bool.and_false]));clear HN HF HO HFit;refine zn hmx (by kernel_rfl) ?_;repeat (go_big_quiet_step (first | (go_at_call 36;refine z1N (z0n _ _ _ _))))
          refine wpQuiet_nil ?_;intro _ hw';obtain ⟨⟨W7,hW7⟩,hw''⟩:=hw';subst hw'';have HB7:=Hd (zh HB1.out hW7);clear hW7;go_wp2;go_ret;exact ⟨zN HF'.out.symm,HB7.out⟩
         | true =>
          cases h5:inB x.ins 0 4 with
          | false =>
           have HF':=Hd (HF.out (by simp only [z0X,h5,Bool.and_false,Bool.false_and]));clear HN HF HO HFit;refine zn hmx (by kernel_rfl) ?_;repeat (go_big_quiet_step (first | (go_at_call 36;refine z1N (z0n _ _ _ _))))
           refine wpQuiet_nil ?_;intro _ hw';obtain ⟨⟨W7,hW7⟩,hw''⟩:=hw';subst hw'';have HB7:=Hd (zh HB1.out hW7);clear hW7;go_wp2;go_ret;exact ⟨zN HF'.out.symm,HB7.out⟩
          | true =>
           have hfit:z0X R C x=true:=(by simp only [z0X,h1,h2,h3,h4,h5,Bool.and_self]);have hl:(gs.take k).length=k:=(by rw [List.length_take];omega);have KL:=Hd (fun (p:BW W1)=>z9F (some ⟨q,off,none⟩) cc (gs.take k) (fun a ha=>zec (HFit.out a ha) hR2 hC2) x (zec hfit hR2 hC2) p.u (((H.out.kept HB1.out).kept p.h).take hk));rw [hl] at KL
           cases hfr:z1f (gs.take k) x with
           | false =>
            rw [hfr] at KL;have HF':=Hd (HF.out (by simp only [hfr,Bool.and_false]));clear HN HF HO HFit hfit hfr hl;refine zn hmx (by kernel_rfl) ?_;repeat (go_big_quiet_step (first | (go_at_call 36;refine z1N (z0n _ _ _ _)) | (go_at_call 84;refine z4l (KL.out _))))
            refine wpQuiet_nil ?_;intro _ hw';obtain ⟨⟨W7,hW7⟩,hw''⟩:=hw';subst hw'';have HB7:=Hd (zh HB1.out hW7);clear hW7;go_wp2;go_ret;exact ⟨zN HF'.out.symm,HB7.out⟩
           | true =>
            rw [hfr] at KL;have HN':=Hd (HN.out hfit hfr);clear HN HF HO HFit hfit hfr hl;refine zn hmx (by kernel_rfl) ?_;repeat (go_big_quiet_step (first | (go_at_call 36;refine z1N (z0n _ _ _ _)) | (go_at_call 84;refine z4l (KL.out _))))
            refine wpQuiet_nil ?_;intro _ hw';obtain ⟨⟨W7,hW7⟩,hw''⟩:=hw';subst hw'';have HB7:=Hd (zh HB1.out hW7);have HX7:=Hd ((hW7.block w.heap.size zw).trans HX1.out);clear hW7;go_wp2;go_roundw
            case rel=>exact ⟨k+1,by omega,by go_num,HN',HB7,HX7⟩
            case measure=>simp [intOf];omega
     ·obtain rfl:k=gs.length:=by omega
      have HF:Hid (okB ⟨R,C,gs⟩=true):=by
       show okB _=true;simp only [okB,HBB.out,HO.out,Bool.and_self]
      clear HO;go_wp2;go_ret;exact ⟨zN HF.out.symm,HB.out⟩
   ·have p3':(40:Int) < (gs.length:Int):=(by omega);have HF:Hid (okB ⟨R,C,gs⟩=false):=z7e (by simp only [z3X,p3,decide_false,Bool.and_false]);go_enter Tryz.func121,Tryz.ntmps121;go_wp2_with fail
    refine (Q1.out _).mono ?_;rintro e w1 ⟨rfl,rfl⟩;go_wp2_with fail
    refine (Q2.out _).mono ?_;rintro e w1 ⟨rfl,rfl⟩;go_wp2;go_ret;exact ⟨zN HF.out.symm,K0.out⟩
end
end Go.Proofs.YtggmjiddadjilahGreat
