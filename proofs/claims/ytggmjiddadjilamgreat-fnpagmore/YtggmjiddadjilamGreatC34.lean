/-
  PROVED HERE: the program's HgtLines at a drawn table and any width: the lines of each cell, in memory of their own; nothing that was in memory is turned. Also: 2 more texts of the same proof.
-/
import Derived.Test.YtggmjiddadjilamGreatC33
import Derived.Test.YtggmjiddadjilamGreatC11
set_option maxRecDepth 1000000
set_option maxHeartbeats 40000000
namespace Go.Proofs.YtggmjiddadjilamGreat
section
open Go.RowKit Go.BigFrame
structure HlJ (w W1 W3:World) (BB:Nat) (ac ar ag:Option Addr) (cc cr cg:Nat) (t:T) (x:GC) (U:Value) (us:List Value) (ls:List (List ByteArray)) (lns:List ByteArray) (s:ByteArray) (q:Int) (va:Value) (k tb gb cb b off:Nat) (L:Nat→Bool) (W:World) (v6 v24 v25 v26 v27 v28 v29 v30 v31 v32 v33 v34 v35:Value):Prop where
 f0:L 0=true→v24=U
 f1:L 1=true→v25=.agg #[.slice ac t.cols.length cc,.int .i64 t.head,.int .i64 t.foot,.slice ar t.rows.length cr,.int .i64 t.gap]
 f2:L 2=true→v26=.agg #[.int .i64 x.row,.int .i64 x.col,.int .i64 x.rows,.int .i64 x.cols,.int .i64 x.ins]
 f3:L 3=true→v27=.string s
 f4:L 4=true→v28=va
 f5:L 5=true→v29=.pointer (some ⟨tb,4,none⟩)
 f6:L 6=true→v30=.int .i64 t.gap
 f7:L 7=true→v31=.agg #[.int .i64 x.row,.int .i64 x.col,.int .i64 x.rows,.int .i64 x.cols,.int .i64 x.ins]
 f8:L 8=true→v32=.int .i64 q
 f9:L 9=true→L 11=false→z1y W BB v33 lns
 f10:L 10=true→∃ g,v34=.slice (some ⟨g,0,none⟩) 1 1∧(L 11=false→W.cell? ⟨g,0,none⟩=some v33)
 fA:L 12=true→v6=v35
 nA:L 12=false→v6=U
 b4:L 11=false→Below W3.heap.size W3 W
 bel:Below W1.heap.size W1 W
 ownA:L 11=true→W.ownsRow BB 119 1 v35 (us ++ [v33]).length (us ++ [v33])∧z2y W BB (us ++ [v33]) (ls ++ [lns])
theorem zdM (a b c:Value) (W:World):(Instr.field 63 (.agg #[a,b,c]) 2).run Tryz.prog W=.ok c W:=by kernel_rfl
theorem zdd (ac ar:Option Addr) (cc cr:Nat) (t:T) (hD:z0g t) (width:Int) (w:World) {z:Nat} (hc:z07 w z (.slice ac t.cols.length cc) t.cols) (hr:z01 w z (.slice ar t.rows.length cr) t.rows) :
  Calls Tryz.prog 77 #[.agg #[.slice ac t.cols.length cc,.int .i64 t.head,.int .i64 t.foot,.slice ar t.rows.length cr,.int .i64 t.gap],.int .i64 width] w fun e w'=>∃ v,e=.returned v∧z2x w' w.heap.size v (z4W t width)∧Below w.heap.size w w':=by
 have hmx:Tryz.prog.follows .mixedOrders=true:=(by kernel_rfl);have hfld:=zdM;obtain ⟨i0,hi0,hz0,hz1,hz2⟩:=info_parts zgy;have HK0:=Hd (ze (Below.refl w.heap.size w) (.cells #[.slice ac t.cols.length cc,.int .i64 t.head,.int .i64 t.foot,.slice ar t.rows.length cr,.int .i64 t.gap] 26));have HX0:=Hd (zj w (.cells #[.slice ac t.cols.length cc,.int .i64 t.head,.int .i64 t.foot,.slice ar t.rows.length cr,.int .i64 t.gap] 26));have HT0:Hid (TA w z ac ar cc cr t):=⟨hc,hr⟩;have hs0:(w.alloc (.cells #[.slice ac t.cols.length cc,.int .i64 t.head,.int .i64 t.foot,.slice ar t.rows.length cr,.int .i64 t.gap] 26)).heap.size=w.heap.size+1:=(by simp);clear hc hr;go_enter Tryz.func77,Tryz.ntmps77;go_upto_region 1 with fail
 generalize w.alloc (.cells #[.slice ac t.cols.length cc,.int .i64 t.head,.int .i64 t.foot,.slice ar t.rows.length cr,.int .i64 t.gap] 26)=W0 at HK0 HX0 hs0 ⊢;obtain ⟨b0,b1,b2,b3,b4⟩:=zU HX0.out;have KM:=Hd (z4m ac ar cc cr t width _ (HT0.out.kept HK0.out).1 (HT0.out.kept HK0.out).2)
 cases hmay:(zC t && inB width 0 300) with
 | false =>
  have HW:Hid (z4W t width=[]):=(by rw [Hid,z4W,if_neg (by rw [hmay];simp)]);rw [hmay] at KM;clear hmay;go_wp2_with fail
  refine KM.out.mono ?_;rintro e w2 ⟨rfl,hb2⟩;have HK2:=Hd (zh HK0.out hb2);clear hb2 KM b0 b1 b2 b3 b4;go_wp2;go_ret;exact ⟨_,rfl,by rw [HW.out];exact ⟨none,0,rfl,Nat.le_refl _,Nat.zero_le _,fun i hi=>absurd hi (Nat.not_lt_zero _)⟩,HK2.out⟩
 | true =>
  have HW:Hid (z4W t width=z16 t (z0d t width) (gOf t).cells):=(by rw [Hid,z4W,if_pos hmay]);rw [hmay] at KM;have HWT:Hid (z5E t width=z0d t width):=(by rw [Hid,z5E,if_pos hmay]);rw [Bool.and_eq_true] at hmay;obtain ⟨htk,hin⟩:=hmay;have hw:0≤width∧width≤300:=(by simpa [inB] using hin);obtain ⟨_,hlw,_⟩:=zeo hD htk hw;obtain ⟨_,hC88,_⟩:=z4K hD htk;obtain ⟨h40,C,hgc,hC88',hcel⟩:=z2Z hD;have HCel:=Hd hcel;have HLw:=Hd hlw;have hl1:(z0d t width).length≤1048576:=(by rw [hlw];omega);have KC:=Hd (fun W (h:TA W z ac ar cc cr t)=>zdK ac ar cc cr t hD width W h.1 h.2);have KG:=Hd (fun W (h:TA W z ac ar cc cr t)=>z6m ac ar cc cr t hD W h.1 h.2);rw [HWT.out] at KC;generalize z0d t width=l at KC HW HLw hl1;have HGk:=Hd (z6N hD);clear hlw hcel hgc hD htk hin hw hC88' HWT;go_wp2_with fail
  refine KM.out.mono ?_;rintro e w2 ⟨rfl,hb2⟩;have HX2:=Hd ((hb2.block w.heap.size (by omega)).trans HX0.out);have HK2:=Hd (zh HK0.out hb2);have hz2':w.heap.size < w2.heap.size:=(by have:=hb2.size;omega);clear hb2 KM b0 b1 b2 b3 b4 HX0 HK0;obtain ⟨b0,b1,b2,b3,b4⟩:=zU HX2.out;go_wp2_with fail
  refine (KC.out _ (HT0.out.kept HK2.out)).mono ?_;rintro e w3 ⟨v3,rfl,hR3,hb3⟩;obtain ⟨a3,c3,rfl⟩:=hR3.form;have HI3:=Hd hR3.at;rw [HLw.out] at HI3;have HX3:=Hd ((hb3.block w.heap.size hz2').trans HX2.out);have HK3:=Hd (zh HK2.out hb3);have hz3:w.heap.size < w3.heap.size:=(by have:=hb3.size;omega);clear hb3 hR3 b0 b1 b2 b3 b4 HX2 HK2;rw [HLw.out];obtain ⟨b0,b1,b2,b3,b4⟩:=zU HX3.out;go_wp2_with fail
  refine (KG.out _ (HT0.out.kept HK3.out)).mono ?_;rintro e W1 ⟨vg,rfl,hO4,hb4⟩;obtain ⟨ag,cg,rfl⟩:=z5w hO4;have HG1:=Hd (hO4.at HGk.out);have HX1:=Hd ((hb4.block w.heap.size hz3).trans HX3.out);have HK1:=Hd (zh HK3.out hb4);have HI1:=Hd (HI3.out.kept hb4);have hz1':w.heap.size < W1.heap.size:=(by have:=hb4.size;omega);have HLe:=Hd (z45 t l (gOf t).cells);have HLn:=Hd (fun k (h:k < (gOf t).cells.length)=>z8T t l h);have HLs:=Hd (z8U t l (gOf t).cells);clear hb4 hO4 b0 b1 b2 b3 b4 HX3 HK3 HI3;go_wp2_with fail
  go_loopw [6,20] (fun o i W=>∃ (k:Nat) (us:List Value),i=.int .i64 k∧k≤(gOf t).cells.length∧Hid (W.ownsRow W1.heap.size 119 1 o us.length us)∧Hid (z2y W W1.heap.size us ((z16 t l (gOf t).cells).take k))∧Hid (Below W1.heap.size W1 W)) (fun _ i _=>(gOf t).cells.length - (intOf i).toNat)
  case atStart=>exact ⟨0,[],rfl,Nat.zero_le _,World.ownsRow_nil _ _ _ _,by rw [List.take_zero];exact z2y.nil _ _,Below.refl _ _⟩
  case round =>
   obtain ⟨k,us,rfl,hk,HO,HRs,HBr⟩:=hrel;by_cases hkl:k < (gOf t).cells.length
   case neg =>
    obtain rfl:k=(gOf t).cells.length:=by omega
    rw [← HLe.out,List.take_length] at HRs;have HF:=Hd (HRs.out.lls HO.out (z:=w.heap.size) (by omega) (by omega) HLs.out);have HK:=Hd (HK1.out.trans (HBr.out.mono (by omega)));go_wp2;go_ret;exact ⟨_,rfl,by rw [HW.out];exact HF.out,HK.out⟩
   obtain ⟨b,off,cap',e',hc1,hc2,hbl,hx,hxo⟩:=At.get (HG1.out.kept HBr.out) hkl;simp only [Value.slice.injEq,true_and] at e';obtain ⟨rfl,rfl⟩:=e';have HNx:=Hd (HLn.out k hkl);have HCx:=Hd (HCel.out k hkl);generalize (z16 t l (gOf t).cells).take k=ls at HRs HNx;generalize (gOf t).cells.getD k dG=x at hx hxo HNx HCx;obtain ⟨x0,x1,x2,x3,x4⟩:=hx;unfold maxLen at hc2;go_upto_region 8 with fail
   have HB4:=Hd (ze (Below.refl wr.heap.size wr) (.cells #[.int .i64 x.row,.int .i64 x.col,.int .i64 x.rows,.int .i64 x.cols,.int .i64 x.ins] 112));have HB1:=Hd (zh HBr.out HB4.out);have HC4:=Hd (zj wr (.cells #[.int .i64 x.row,.int .i64 x.col,.int .i64 x.rows,.int .i64 x.cols,.int .i64 x.ins] 112));have hlc:wr.heap.size < (wr.alloc (.cells #[.int .i64 x.row,.int .i64 x.col,.int .i64 x.rows,.int .i64 x.cols,.int .i64 x.ins] 112)).heap.size:=(by simp);have HX:=Hd ((HB1.out.block w.heap.size hz1').trans HX1.out);have hlt0:w.heap.size < (wr.alloc (.cells #[.int .i64 x.row,.int .i64 x.col,.int .i64 x.rows,.int .i64 x.cols,.int .i64 x.ins] 112)).heap.size:=(bL HX.out);replace HO:=Hd (z4k HO.out HB4.out);replace HRs:=Hd (HRs.out.kept HB4.out);generalize wr.alloc (.cells #[.int .i64 x.row,.int .i64 x.col,.int .i64 x.rows,.int .i64 x.cols,.int .i64 x.ins] 112)=W3 at HB4 HB1 HC4 hlc HX hlt0 HO HRs ⊢;generalize wr.heap.size=cb at HC4 hlc ⊢;have hsz:(zI t x).size≤maxLen:=z6w HCx.out HT0.out.2;have KT:=Hd (fun W (h:Below W3.heap.size W3 W)=>z9Y ac ar cc cr t x HCx.out W (((HT0.out.2.kept HK1.out).kept HB1.out).kept h));have KW:=Hd (fun W (h:Below W3.heap.size W3 W)=>z8S _ l hl1 t.gap x hxo W ((HI1.out.kept HB1.out).kept h));have KL:=Hd (fun W=>zdc (zI t x) hsz (z2k l t.gap x) W);have HNy:Hid ((z16 t l (gOf t).cells).take (k+1)=ls ++ [zR (z15 (z2k l t.gap x) (zP (zI t x)))]):=HNx.out;clear HNx hsz;have HNx:=HNy;clear HNy HCx hxo;generalize zR (z15 (z2k l t.gap x) (zP (zI t x)))=lns at KL HNx;generalize z2k l t.gap x=q at KW KL;generalize zI t x=s at KT KL;have husl:us.length≤40:=(by have h1:=HRs.out.1;have h2:=congrArg List.length HNx.out;rw [List.length_append,List.length_take,List.length_singleton] at h2;omega);have HBs:Hid (∀ {m:Nat},W1.heap.size≤m→W1.heap.size≤m):=fun h=>h;have HBs2:Hid (∀ {m:Nat},W1.heap.size≤m→W1.heap.size≤m):=fun h=>h;clear HCel HLn HLs HLe x0 x1 x2 x3 x4 HBr HB4;refine z0p (fun L act W=>∃ v6 v24 v25 v26 v27 v28 v29 v30 v31 v32 v33 v34 v35:Value,act=⟨#[.agg #[.slice ac t.cols.length cc,.int .i64 t.head,.int .i64 t.foot,.slice ar t.rows.length cr,.int .i64 t.gap],.int .i64 width,.pointer (some ⟨w.heap.size,0,none⟩),undef,.slice none 0 0,.slice a3 (zA t) c3,v6,undef,.pointer (some ⟨cb,0,none⟩),.agg #[.slice ac t.cols.length cc,.int .i64 t.head,.int .i64 t.foot,.slice ar t.rows.length cr,.int .i64 t.gap],.int .i64 width,.bool true,.bool false,.agg #[.slice ac t.cols.length cc,.int .i64 t.head,.int .i64 t.foot,.slice ar t.rows.length cr,.int .i64 t.gap],.int .i64 width,.slice a3 (zA t) c3,.agg #[.slice ac t.cols.length cc,.int .i64 t.head,.int .i64 t.foot,.slice ar t.rows.length cr,.int .i64 t.gap],.agg #[.int .i64 (gOf t).rows,.int .i64 (gOf t).cols,.slice (some ⟨b,off,none⟩) (gOf t).cells.length cg],.slice (some ⟨b,off,none⟩) (gOf t).cells.length cg,.int .i64 ((gOf t).cells.length:Int),.int .i64 (k:Int),.bool true,.pointer (some ⟨b,off+k * 5,none⟩),.agg #[.int .i64 x.row,.int .i64 x.col,.int .i64 x.rows,.int .i64 x.cols,.int .i64 x.ins],v24,v25,v26,v27,v28,v29,v30,v31,v32,v33,v34,v35,u36,undef],[]⟩∧HlJ w W1 W3 W1.heap.size ac ar (some ⟨b,off,none⟩) cc cr cg t x u6 us ls lns s q (.slice a3 (zA t) c3) k w.heap.size 0 cb b off L W v6 v24 v25 v26 v27 v28 v29 v30 v31 v32 v33 v34 v35) hmx (by kernel_rfl) ?hs ?hd ?h0
   case h0=>exact ⟨_,_,_,_,_,_,_,_,_,_,_,_,_,rfl,⟨(fun h=>by cases h),(fun h=>by cases h),(fun h=>by cases h),(fun h=>by cases h),(fun h=>by cases h),(fun h=>by cases h),(fun h=>by cases h),(fun h=>by cases h),(fun h=>by cases h),(fun h=>by cases h),(fun h=>by cases h),(fun h=>by cases h),(fun _=>rfl),(fun _=>z1a (Below.refl _ _)),z1a HB1.out,(fun h=>by cases h)⟩⟩
   case hd =>
    intro L act W hJ hall;obtain ⟨v6,v24,v25,v26,v27,v28,v29,v30,v31,v32,v33,v34,v35,ha,J⟩:=hJ;subst ha;obtain rfl:=J.fA (hall 12 (by decide));obtain ⟨ho5,hr5⟩:=J.ownA (hall 11 (by decide));have HO5:=Hd ho5;have HR5:=Hd hr5;have HB5:=Hd J.bel;obtain ⟨g',cap'',rfl⟩:=Joins.ownsRow_form HO5.out (by simp);clear J hall ho5 hr5;go_wp2;go_roundw
    case rel=>exact ⟨k+1,_,by go_num,by omega,HO5,by rw [HNx.out];exact HR5,HB5⟩
    case measure=>simp [intOf];omega
   case hs =>
    intro L act W i o hJ hcl ho hLi haft K hK;obtain ⟨v6,v24,v25,v26,v27,v28,v29,v30,v31,v32,v33,v34,v35,ha,J⟩:=hJ;subst ha
    have hi':i < 13:=by
     have:=(bL ho)
     simpa using this
    rcases (by omega:i=0∨i=1∨i=2∨i=3∨i=4∨i=5∨i=6∨i=7∨i=8∨i=9∨i=10∨i=11∨i=12) with rfl | rfl | rfl | rfl | rfl | rfl | rfl | rfl | rfl | rfl | rfl | rfl | rfl
    all_goals
     simp only [List.getElem?_toArray,List.getElem?_cons_zero,List.getElem?_cons_succ,Option.some.injEq] at ho;subst ho;clear hi'
    ·have hAp:L 11=false:=(Qh hcl 11 0 hLi);have hAs:L 12=false:=(Qh hcl 12 11 (Qh hcl 11 0 hLi));have B4:=J.b4 hAp;obtain rfl:=J.nA hAs;go_simp;exact hK _ _ ⟨_,_,_,_,_,_,_,_,_,_,_,_,_,rfl,⟨(fun _=>rfl),uq J.f1,uq J.f2,uq J.f3,uq J.f4,uq J.f5,uq J.f6,uq J.f7,uq J.f8,(fun h h2=>J.f9 (un h) (by rwa [zc rfl] at h2)),(ub J.f10),(uf hAs),uq J.nA,(fun _=>B4),J.bel,(uf hAp)⟩⟩
    ·have hAp:L 11=false:=(Qh hcl 11 10 (Qh hcl 10 9 (Qh hcl 9 3 (Qh hcl 3 1 hLi))));have hAs:L 12=false:=(Qh hcl 12 11 (Qh hcl 11 10 (Qh hcl 10 9 (Qh hcl 9 3 (Qh hcl 3 1 hLi)))));have B4:=J.b4 hAp;obtain ⟨q0,q1,q2,q3,q4⟩:=zU ((B4.block _ hlt0).trans HX.out);have hl:=Nat.lt_of_lt_of_le hlt0 B4.size;go_simp;exact hK _ _ ⟨_,_,_,_,_,_,_,_,_,_,_,_,_,rfl,⟨uq J.f0,(fun _=>rfl),uq J.f2,uq J.f3,uq J.f4,uq J.f5,uq J.f6,uq J.f7,uq J.f8,(fun h h2=>J.f9 (un h) (by rwa [zc rfl] at h2)),(ub J.f10),(uf hAs),uq J.nA,(fun _=>B4),J.bel,(uf hAp)⟩⟩
    ·have hAp:L 11=false:=(Qh hcl 11 10 (Qh hcl 10 9 (Qh hcl 9 3 (Qh hcl 3 2 hLi))));have hAs:L 12=false:=(Qh hcl 12 11 (Qh hcl 11 10 (Qh hcl 10 9 (Qh hcl 9 3 (Qh hcl 3 2 hLi)))));have B4:=J.b4 hAp;obtain ⟨q0,q1,q2,q3,q4⟩:=zU ((B4.block _ hlc).trans HC4.out);have hl:=Nat.lt_of_lt_of_le hlc B4.size;go_simp;exact hK _ _ ⟨_,_,_,_,_,_,_,_,_,_,_,_,_,rfl,⟨uq J.f0,uq J.f1,(fun _=>rfl),uq J.f3,uq J.f4,uq J.f5,uq J.f6,uq J.f7,uq J.f8,(fun h h2=>J.f9 (un h) (by rwa [zc rfl] at h2)),(ub J.f10),(uf hAs),uq J.nA,(fun _=>B4),J.bel,(uf hAp)⟩⟩
    ·have hAp:L 11=false:=(Qh hcl 11 10 (Qh hcl 10 9 (Qh hcl 9 3 hLi)));have hAs:L 12=false:=(Qh hcl 12 11 (Qh hcl 11 10 (Qh hcl 10 9 (Qh hcl 9 3 hLi))));have B4:=J.b4 hAp;obtain rfl:=J.f1 (Fa haft 1);obtain rfl:=J.f2 (Fa haft 2);go_simp;go_wp2_with (go_at_call 102;refine (KT.out W B4).mono ?_;rintro e WN ⟨rfl,_,hb⟩)
     exact ⟨_,_,_,_,_,_,_,_,_,_,_,_,_,rfl,⟨uq J.f0,uq J.f1,uq J.f2,(fun _=>rfl),uq J.f4,uq J.f5,uq J.f6,uq J.f7,uq J.f8,(fun h h2=>(J.f9 (un h) (by rwa [zc rfl] at h2)).below hb (Nat.le_refl _)),(fun h=>by obtain ⟨g,e,c⟩:=J.f10 (un h);exact ⟨g,e,fun h2=>(hb.cell (World.block_lt_of_cell? _ _ (c (by rwa [zc rfl] at h2)))).trans (c (by rwa [zc rfl] at h2))⟩),(uf hAs),uq J.nA,(fun _=>zh B4 hb),zh J.bel hb,(uf hAp)⟩⟩
    ·have hAp:L 11=false:=(Qh hcl 11 10 (Qh hcl 10 9 (Qh hcl 9 8 (Qh hcl 8 4 hLi))));have hAs:L 12=false:=(Qh hcl 12 11 (Qh hcl 11 10 (Qh hcl 10 9 (Qh hcl 9 8 (Qh hcl 8 4 hLi)))));have B4:=J.b4 hAp;go_simp;exact hK _ _ ⟨_,_,_,_,_,_,_,_,_,_,_,_,_,rfl,⟨uq J.f0,uq J.f1,uq J.f2,uq J.f3,(fun _=>rfl),uq J.f5,uq J.f6,uq J.f7,uq J.f8,(fun h h2=>J.f9 (un h) (by rwa [zc rfl] at h2)),(ub J.f10),(uf hAs),uq J.nA,(fun _=>B4),J.bel,(uf hAp)⟩⟩
    ·have hAp:L 11=false:=(Qh hcl 11 10 (Qh hcl 10 9 (Qh hcl 9 8 (Qh hcl 8 6 (Qh hcl 6 5 hLi)))));have hAs:L 12=false:=(Qh hcl 12 11 (Qh hcl 11 10 (Qh hcl 10 9 (Qh hcl 9 8 (Qh hcl 8 6 (Qh hcl 6 5 hLi))))));have B4:=J.b4 hAp;go_simp;exact hK _ _ ⟨_,_,_,_,_,_,_,_,_,_,_,_,_,rfl,⟨uq J.f0,uq J.f1,uq J.f2,uq J.f3,uq J.f4,(fun _=>rfl),uq J.f6,uq J.f7,uq J.f8,(fun h h2=>J.f9 (un h) (by rwa [zc rfl] at h2)),(ub J.f10),(uf hAs),uq J.nA,(fun _=>B4),J.bel,(uf hAp)⟩⟩
    ·have hAp:L 11=false:=(Qh hcl 11 10 (Qh hcl 10 9 (Qh hcl 9 8 (Qh hcl 8 6 hLi))));have hAs:L 12=false:=(Qh hcl 12 11 (Qh hcl 11 10 (Qh hcl 10 9 (Qh hcl 9 8 (Qh hcl 8 6 hLi)))));have B4:=J.b4 hAp;obtain ⟨q0,q1,q2,q3,q4⟩:=zU ((B4.block _ hlt0).trans HX.out);have hl:=Nat.lt_of_lt_of_le hlt0 B4.size;obtain rfl:=J.f5 (Fa haft 5);go_simp;exact hK _ _ ⟨_,_,_,_,_,_,_,_,_,_,_,_,_,rfl,⟨uq J.f0,uq J.f1,uq J.f2,uq J.f3,uq J.f4,uq J.f5,(fun _=>rfl),uq J.f7,uq J.f8,(fun h h2=>J.f9 (un h) (by rwa [zc rfl] at h2)),(ub J.f10),(uf hAs),uq J.nA,(fun _=>B4),J.bel,(uf hAp)⟩⟩
    ·have hAp:L 11=false:=(Qh hcl 11 10 (Qh hcl 10 9 (Qh hcl 9 8 (Qh hcl 8 7 hLi))));have hAs:L 12=false:=(Qh hcl 12 11 (Qh hcl 11 10 (Qh hcl 10 9 (Qh hcl 9 8 (Qh hcl 8 7 hLi)))));have B4:=J.b4 hAp;obtain ⟨q0,q1,q2,q3,q4⟩:=zU ((B4.block _ hlc).trans HC4.out);have hl:=Nat.lt_of_lt_of_le hlc B4.size;go_simp;exact hK _ _ ⟨_,_,_,_,_,_,_,_,_,_,_,_,_,rfl,⟨uq J.f0,uq J.f1,uq J.f2,uq J.f3,uq J.f4,uq J.f5,uq J.f6,(fun _=>rfl),uq J.f8,(fun h h2=>J.f9 (un h) (by rwa [zc rfl] at h2)),(ub J.f10),(uf hAs),uq J.nA,(fun _=>B4),J.bel,(uf hAp)⟩⟩
    ·have hAp:L 11=false:=(Qh hcl 11 10 (Qh hcl 10 9 (Qh hcl 9 8 hLi)));have hAs:L 12=false:=(Qh hcl 12 11 (Qh hcl 11 10 (Qh hcl 10 9 (Qh hcl 9 8 hLi))));have B4:=J.b4 hAp;obtain rfl:=J.f4 (Fa haft 4);obtain rfl:=J.f6 (Fa haft 6);obtain rfl:=J.f7 (Fa haft 7);go_simp;go_wp2_with (go_at_call 117;refine (KW.out W B4).mono ?_;rintro e WN ⟨rfl,hb⟩)
     exact ⟨_,_,_,_,_,_,_,_,_,_,_,_,_,rfl,⟨uq J.f0,uq J.f1,uq J.f2,uq J.f3,uq J.f4,uq J.f5,uq J.f6,uq J.f7,(fun _=>rfl),(fun h h2=>(J.f9 (un h) (by rwa [zc rfl] at h2)).below hb (Nat.le_refl _)),(fun h=>by obtain ⟨g,e,c⟩:=J.f10 (un h);exact ⟨g,e,fun h2=>(hb.cell (World.block_lt_of_cell? _ _ (c (by rwa [zc rfl] at h2)))).trans (c (by rwa [zc rfl] at h2))⟩),(uf hAs),uq J.nA,(fun _=>zh B4 hb),zh J.bel hb,(uf hAp)⟩⟩
    ·have hAp:L 11=false:=(Qh hcl 11 10 (Qh hcl 10 9 hLi));have hAs:L 12=false:=(Qh hcl 12 11 (Qh hcl 11 10 (Qh hcl 10 9 hLi)));have B4:=J.b4 hAp;obtain rfl:=J.f3 (Fa haft 3);obtain rfl:=J.f8 (Fa haft 8);go_simp;go_wp2_with (go_at_call 116;refine (KL.out W).mono ?_;rintro e WN ⟨vt,rfl,hR,hb⟩;have hR2:=(z1y.of_owns hR).base (B':=W1.heap.size) (HBs.out J.bel.size);clear hR)
     exact ⟨_,_,_,_,_,_,_,_,_,_,_,_,_,rfl,⟨uq J.f0,uq J.f1,uq J.f2,uq J.f3,uq J.f4,uq J.f5,uq J.f6,uq J.f7,uq J.f8,(fun _ _=>hR2),(fun h=>by rw [zc rfl,(Qh hcl 10 9 hLi)] at h;cases h),(uf hAs),uq J.nA,(fun _=>zh B4 hb),zh J.bel hb,(uf hAp)⟩⟩
    ·have hAp:L 11=false:=(Qh hcl 11 10 hLi);have hAs:L 12=false:=(Qh hcl 12 11 (Qh hcl 11 10 hLi));have B4:=J.b4 hAp;obtain ⟨a9,c9,rfl⟩:=(J.f9 (Fa haft 9) hAp).form;go_simp;exact hK _ _ ⟨_,_,_,_,_,_,_,_,_,_,_,_,_,rfl,⟨uq J.f0,uq J.f1,uq J.f2,uq J.f3,uq J.f4,uq J.f5,uq J.f6,uq J.f7,uq J.f8,(fun h h2=>(J.f9 (un h) (by rwa [zc rfl] at h2)).below (ze (Below.refl _ _) _) (Nat.le_refl _)),(fun _=>⟨_,rfl,fun _=>by simp⟩),(uf hAs),uq J.nA,(fun _=>ze B4 _),ze J.bel _,(uf hAp)⟩⟩
    ·have hAp:L 11=false:=hLi;have hAs:L 12=false:=(Qh hcl 12 11 hLi);have B4:=J.b4 hAp;obtain rfl:=J.f0 (Fa haft 0);obtain ⟨g,rfl,hg⟩:=J.f10 (Fa haft 10);have hO4:=z4k HO.out B4;have hT4:=J.f9 (by cases hz:L 9 with | true=>rfl | false=>have:=hcl 10 9 (by kernel_rfl) hz;rw [(Fa haft 10)] at this;cases this) hAp;rw [if_pos (by rfl)];refine wp_append_own _ (.tmp 24) (.tmp 34) 82 rfl W1.heap.size 119 i0 (.slice none 0 0) 1 24 Tryz.underlying82 hi0 hz0 hz1 hz2 rfl (by decide) _ _ _ rfl hO4 ⟨g,0,none⟩ 1 1 [v33] rfl rfl ?c1 ?c2 ?c3 ?c4 ?c5 ?_
     case c1 =>
      intro i u hi
      match i,hi with
      | 0,hi=>simp at hi;subst hi;simpa [Addr.add] using hg hAp
     case c2=>intro u hu;simp at hu;subst hu;obtain ⟨a9,c9,rfl⟩:=hT4.form;rfl
     case c3=>unfold maxLen;omega
     case c4=>omega
     case c5=>exact HBs.out (J.bel.size)
     intro v' w5 hown' hgrow' _;have hB5:Below W1.heap.size W1 w5:=J.bel.grown hgrow' J.bel.size (fun q hq=>HBs2.out (hO4.lt q hq).1);have hR5:=((HRs.out.kept B4).grown hO4 hgrow').next (hT4.grown hO4 hgrow');exact hK _ _ ⟨_,_,_,_,_,_,_,_,_,_,_,_,_,rfl,⟨uq J.f0,uq J.f1,uq J.f2,uq J.f3,uq J.f4,uq J.f5,uq J.f6,uq J.f7,uq J.f8,(fun _ h2=>by rw [zH] at h2;cases h2),(fun _=>⟨g,rfl,fun h2=>by rw [zH] at h2;cases h2⟩),(uf hAs),uq J.nA,(fun h=>by rw [zH] at h;cases h),hB5,(fun _=>⟨by rw [List.length_append];exact hown',hR5⟩)⟩⟩
    ·go_simp;exact hK _ _ ⟨_,_,_,_,_,_,_,_,_,_,_,_,_,rfl,⟨uq J.f0,uq J.f1,uq J.f2,uq J.f3,uq J.f4,uq J.f5,uq J.f6,uq J.f7,uq J.f8,(fun h h2=>J.f9 (un h) (by rwa [zc rfl] at h2)),(ub J.f10),(fun _=>rfl),(fun h=>by rw [zH] at h;cases h),uq J.b4,J.bel,uq J.ownA⟩⟩
def HrP (W5:World) (R:Nat) (L:List Int) (W:World):Prop:=Below W5.heap.size W5 W∧zq W W5.heap.size (W5.heap.size+1) (.slice (some ⟨W5.heap.size,0,none⟩) R R) L∧W5.heap.size+1≤W.heap.size
theorem HrP.kept {W5 W W':World} {R:Nat} {L:List Int} (h:HrP W5 R L W) (hb:Below W.heap.size W W'):HrP W5 R L W' :=
 ⟨h.1.trans (hb.mono h.1.size),h.2.1.kept (fun j h0 _ _=>hb.block j h0),Nat.le_trans h.2.2 hb.size⟩
theorem HrP.set {W5 W W':World} {R:Nat} {L:List Int} (h:HrP W5 R L W) {r:Nat} (hr:r < L.length) (hb:Below W.heap.size W W') (y:Int):HrP W5 R (L.set r y) (W'.setCell ⟨W5.heap.size,r,none⟩ (.int .i64 y)) :=
 ⟨z2j (h.kept hb).1 (p:=⟨W5.heap.size,r,none⟩) (Nat.le_refl _) (.int .i64 y),(h.kept hb).2.1.set hr y,by rw [z2U];exact (h.kept hb).2.2⟩
theorem zdN (ac ar:Option Addr) (cc cr:Nat) (t:T) (hD:z0g t) (width:Int) (w:World) {z:Nat} (hc:z07 w z (.slice ac t.cols.length cc) t.cols) (hr:z01 w z (.slice ar t.rows.length cr) t.rows) :
  Calls Tryz.prog 33 #[.agg #[.slice ac t.cols.length cc,.int .i64 t.head,.int .i64 t.foot,.slice ar t.rows.length cr,.int .i64 t.gap],.int .i64 width] w fun e w'=>∃ v,e=.returned v∧zq w' w.heap.size w'.heap.size v (z1j t width)∧Below w.heap.size w w':=by
 have hmx:Tryz.prog.follows .mixedOrders=true:=(by kernel_rfl);have HK0:=Hd (ze (Below.refl w.heap.size w) (.cells #[.slice ac t.cols.length cc,.int .i64 t.head,.int .i64 t.foot,.slice ar t.rows.length cr,.int .i64 t.gap] 26));have HX0:=Hd (zj w (.cells #[.slice ac t.cols.length cc,.int .i64 t.head,.int .i64 t.foot,.slice ar t.rows.length cr,.int .i64 t.gap] 26));have HT0:Hid (TA w z ac ar cc cr t):=⟨hc,hr⟩;have hs0:(w.alloc (.cells #[.slice ac t.cols.length cc,.int .i64 t.head,.int .i64 t.foot,.slice ar t.rows.length cr,.int .i64 t.gap] 26)).heap.size=w.heap.size+1:=(by simp);clear hc hr;go_enter Tryz.func33,Tryz.ntmps33;go_wp2_with fail
 go_step3
 generalize w.alloc (.cells #[.slice ac t.cols.length cc,.int .i64 t.head,.int .i64 t.foot,.slice ar t.rows.length cr,.int .i64 t.gap] 26)=W0 at HK0 HX0 hs0 ⊢;obtain ⟨b0,b1,b2,b3,b4⟩:=zU HX0.out;have KM:=Hd (z4m ac ar cc cr t width _ (HT0.out.kept HK0.out).1 (HT0.out.kept HK0.out).2)
 cases hmay:(zC t && inB width 0 300) with
 | false =>
  have HW:Hid (z1j t width=[]):=(by rw [Hid,z1j,if_neg (by rw [hmay];simp)]);rw [hmay] at KM;clear hmay;go_wp2_with fail
  refine KM.out.mono ?_;rintro e w2 ⟨rfl,hb2⟩;have HK2:=Hd (zh HK0.out hb2);clear hb2 KM b0 b1 b2 b3 b4;go_wp2
  try rw [Exit.noGoto_ret]
  go_ret;exact ⟨_,rfl,by rw [HW.out];exact .inl ⟨rfl,rfl⟩,HK2.out⟩
 | true =>
  have HW:Hid (z1j t width=z6V t (z0d t width)):=(by rw [Hid,z1j,if_pos hmay]);rw [hmay] at KM;have HLT:Hid (z4W t width=z16 t (z0d t width) (gOf t).cells):=(by rw [Hid,z4W,if_pos hmay]);rw [Bool.and_eq_true] at hmay;obtain ⟨htk,hin⟩:=hmay;have h40:=zjA hD;have hR8:=zio hD htk;have HGr:=Hd (zil htk);have HGc:=Hd (zim hD htk);have HGm:=Hd (zin hD htk);have HGk:=Hd (z6N hD);have HLl:=Hd (z45 t (z0d t width) (gOf t).cells);have HLa:=Hd (zeZ t (z0d t width) (gOf t).cells);have HRc:=Hd (zip t (z0d t width) (gOf t).cells);have KC:=Hd (fun W (h:TA W z ac ar cc cr t)=>zdd ac ar cc cr t hD width W h.1 h.2);have KG:=Hd (fun W (h:TA W z ac ar cc cr t)=>z6m ac ar cc cr t hD W h.1 h.2);rw [HLT.out] at KC;unfold z6V at HW;generalize z16 t (z0d t width) (gOf t).cells=ls at KC HW HLl HLa HRc;obtain ⟨R,hRe⟩:∃ R:Nat,t.rows.length=R:=⟨_,rfl⟩;rw [hRe] at HGr HGc hR8 HW;rw [HGr.out] at KG;have hmk:=z5t R (by omega);clear hD htk hin HLT HGr hRe;go_wp2_with fail
  refine KM.out.mono ?_;rintro e w2 ⟨rfl,hb2⟩;have HX2:=Hd ((hb2.block w.heap.size (by omega)).trans HX0.out);have HK2:=Hd (zh HK0.out hb2);have hz2':w.heap.size < w2.heap.size:=(by have:=hb2.size;omega);clear hb2 KM b0 b1 b2 b3 b4 HX0 HK0;obtain ⟨b0,b1,b2,b3,b4⟩:=zU HX2.out;go_wp2_with fail
  refine (KG.out _ (HT0.out.kept HK2.out)).mono ?_;rintro e w3 ⟨vg,rfl,hO3,hb3⟩;obtain ⟨ag,cg,rfl⟩:=z5w hO3;have HG3:=Hd (hO3.at HGk.out);have HX3:=Hd ((hb3.block w.heap.size hz2').trans HX2.out);have HK3:=Hd (zh HK2.out hb3);have hz3:w.heap.size < w3.heap.size:=(by have:=hb3.size;omega);clear hb3 hO3 b0 b1 b2 b3 b4 HX2 HK2 KG;go_upto_region 4 with fail
  have HB4:=ze (Below.refl w3.heap.size w3) (.cells #[.int .i64 (R:Int),.int .i64 (gOf t).cols,.slice ag (gOf t).cells.length cg] 63);have HG4:=Hd (HG3.out.kept HB4);have HX4:=Hd ((HB4.block w.heap.size hz3).trans HX3.out);have HK4:=Hd (zh HK3.out HB4);have HY4:=Hd (zj w3 (.cells #[.int .i64 (R:Int),.int .i64 (gOf t).cols,.slice ag (gOf t).cells.length cg] 63));have hz4:w3.heap.size < (w3.alloc (.cells #[.int .i64 (R:Int),.int .i64 (gOf t).cols,.slice ag (gOf t).cells.length cg] 63)).heap.size:=(by simp);clear HB4 HG3 HX3 HK3;generalize w3.alloc (.cells #[.int .i64 (R:Int),.int .i64 (gOf t).cols,.slice ag (gOf t).cells.length cg] 63)=W4 at HG4 HX4 HK4 HY4 hz4 ⊢;generalize w3.heap.size=gb at HY4 hz3 hz4 ⊢;obtain ⟨b0,b1,b2,b3,b4⟩:=zU HX4.out;go_wp2_with fail
  refine (KC.out _ (HT0.out.kept HK4.out)).mono ?_;rintro e W5 ⟨v5,rfl,hL5,hb5⟩;obtain ⟨al,cl,rfl,_⟩:=At.form hL5;rw [HLl.out] at hL5 ⊢;have HL5:=Hd hL5;have HG5:=Hd (HG4.out.kept hb5);have HK5:=Hd (zh HK4.out hb5);have HY5:=Hd ((hb5.block gb hz4).trans HY4.out);have hz5:gb < W5.heap.size:=(by have:=hb5.size;omega);clear hb5 hL5 b0 b1 b2 b3 b4 HX4 HK4 HG4 HY4 KC HT0 hz2';have y0:W5.cell? ⟨gb,0,none⟩=some (.int .i64 (R:Int)):=zf HY5.out;have HH:Hid (HrP W5 R (z0b (rcs (gOf t).cells ls) 0 ++ zS (R - 0)) (W5.alloc (.cells (z1d R) 3))):=⟨ze (Below.refl _ _) _,z47 W5 R (by omega),by simp⟩;have HRl:=Hd (zay HLl.out);have HRg:=Hd (fun k (hk:k < (gOf t).cells.length)=>z8w HLl.out hk)
  have HRp:Hid (∀ j,j < (gOf t).cells.length→∀ c,(rcs (gOf t).cells ls)[j]?=some c→c.1=((gOf t).cells.getD j dG).row.toNat∧c.2.1=((gOf t).cells.getD j dG).rows.toNat):=fun j hj c hc=>by
   rw [z8w HLl.out hj] at hc;obtain rfl:=Option.some.inj hc;exact ⟨rfl,rfl⟩
  generalize hcs:rcs (gOf t).cells ls=cs at HRl HRg HRp HRc HW HH;clear hcs;go_wp2_with fail
  go_step3
  go_wp2_with fail
  go_loopw [25] (fun s W=>∃ r:Nat,s=.int .i64 r∧r≤R∧Hid (HrP W5 R (z0b cs r ++ zS (R - r)) W)) (fun s _=>R - (intOf s).toNat)
  case atStart=>exact ⟨0,rfl,Nat.zero_le _,HH⟩
  case round =>
   clear HH y0 hmk;obtain ⟨r,rfl,hr,HH⟩:=hrel;by_cases hlt:r < R
   case neg =>
    obtain rfl:r=R:=by omega
    have HF:=HH;rw [Nat.sub_self,show zS 0=[] from rfl,List.append_nil] at HF;have HK:=Hd (HK5.out.trans (HF.out.1.mono (by omega)));go_wp2;rw [Exit.noGoto_ret];go_ret;exact ⟨_,rfl,by rw [HW.out];exact HF.out.2.1.base (by omega) HF.out.2.2,HK.out⟩
   rw [zcI cs hlt] at HH;have Y:=Hd ((HH.out.1.block gb hz5).trans HY5.out);have q2:wr.cell? ⟨gb,2,none⟩=some (.slice ag (gOf t).cells.length cg):=zf Y.out;go_wp2_with fail
   go_loopw [31] (fun s W=>∃ k:Nat,s=.int .i64 k∧k≤(gOf t).cells.length∧Hid (HrP W5 R (hsL cs R r k) W)) (fun s _=>(gOf t).cells.length - (intOf s).toNat)
   case atStart=>exact ⟨0,rfl,Nat.zero_le _,HH⟩
   case round=>as_aux_lemma =>
    clear HH q2 Y;obtain ⟨k,rfl,hk,HH⟩:=hrel;by_cases hkl:k < (gOf t).cells.length
    case neg =>
     obtain rfl:k=(gOf t).cells.length:=by omega
     rw [← HRl.out,zaz] at HH;go_wp2;go_roundw
     case rel=>exact ⟨r+1,by go_num,by omega,HH⟩
     case measure=>simp [intOf];omega
    obtain ⟨b,off,cap',e',hc1,hc2,hbl,hx,hxo⟩:=At.get (HG5.out.kept HH.out.1) hkl;simp only [Value.slice.injEq,true_and] at e';obtain ⟨rfl,rfl⟩:=e';unfold maxLen at hc2;obtain ⟨a,m,e1,e2,h1,h2⟩:=HGc.out k hkl;have HCv:Hid (cs[k]?=some (a,m,((ls.getD k []).length:Int))):=(by rw [Hid,HRg.out k hkl,zcH,e1,e2,Int.toNat_natCast,Int.toNat_natCast])
    have HLt:Hid (r < a→hsL cs R r k=z0b cs (r+1) ++ zS (R - (r+1))):=fun hra=>by
     rw [← zaz];refine zj4 (fun j hkj hj c hc=>?_);rw [HRl.out] at hj;obtain ⟨c1,c2⟩:=HRp.out j hj c hc;obtain ⟨aj,mj,f1,f2,f3,f4⟩:=HGc.out j hj;have hmj:=HGm.out k j hkj hj;rw [c1,c2];omega
    obtain ⟨x0,x1,x2,x3,x4⟩:=hx;rw [e1] at x0;rw [e2] at x2;have HXe:Hid (((gOf t).cells.getD k dG).row=a∧((gOf t).cells.getD k dG).rows=m):=⟨e1,e2⟩;generalize (gOf t).cells.getD k dG=x at x0 x1 x2 x3 x4 hxo HXe;clear e1 e2;by_cases hra:r < a
    ·have hrb:((r:Int) < (a:Int)):=(by omega);have HL1:=Hd (HLt.out hra);rw [HL1.out] at HH;clear HLt HL1 hra;go_wp2;exact ⟨⟨r+1,by go_num,by omega,HH.out.kept (ze (Below.refl _ _) _)⟩,by simp [intOf];omega⟩
    have hrn:¬ ((r:Int) < (a:Int)):=(by omega);clear HLt;by_cases hms:a+m=r+1
    case neg =>
     have hmb:((a:Int)+(m:Int) - 1 == (r:Int))=false:=(by simp;omega);have HS:=Hd (zcK (R:=R) HCv.out hms);clear hms hra;go_wp2;go_roundw
     case rel=>exact ⟨k+1,by go_num,by omega,by rw [HS.out];exact HH.out.kept (ze (Below.refl _ _) _)⟩
     case measure=>simp [intOf];omega
    have hmb:((a:Int)+(m:Int) - 1 == (r:Int))=true:=(by simp;omega);have HS:=Hd (zcL (R:=R) HCv.out hms);have hcb:=z6s (by omega) HRc.out r k;have hsp:=zem HRc.out (r:=r) (by omega) a;have HHi:=Hd (zj3 HRc.out (R:=R) (k:=k) (by omega) hlt HXe.out.1 HXe.out.2 h1 hms);have hlen:=z8x cs k hlt;have hm1:=HLa.out k hkl;go_upto_region 14 with fail
    have HH4:=Hd (HH.out.kept (ze (Below.refl _ _) (.cells #[.int .i64 (a:Int),.int .i64 x.col,.int .i64 (m:Int),.int .i64 x.cols,.int .i64 x.ins] 112)));have HC4:=zj wr (.cells #[.int .i64 (a:Int),.int .i64 x.col,.int .i64 (m:Int),.int .i64 x.cols,.int .i64 x.ins] 112);have hcbw:wr.heap.size < (wr.alloc (.cells #[.int .i64 (a:Int),.int .i64 x.col,.int .i64 (m:Int),.int .i64 x.cols,.int .i64 x.ins] 112)).heap.size:=(by simp);generalize wr.alloc (.cells #[.int .i64 (a:Int),.int .i64 x.col,.int .i64 (m:Int),.int .i64 x.cols,.int .i64 x.ins] 112)=W6 at HH4 HC4 hcbw ⊢;generalize wr.heap.size=cb at HC4 hcbw hbl ⊢;clear HH x0 x1 x2 x3 x4 hbl hmb hrn hra;obtain ⟨bl,offl,cl',ul,el,hl1,hl2,hlb,hlx,hls⟩:=(HL5.out.kept HH4.out.1).get (i:=k) (by rw [HLl.out];exact hkl);rw [HLl.out] at el hl1;simp only [Value.slice.injEq,true_and] at el;obtain ⟨rfl,rfl⟩:=el;obtain ⟨au,cu,rfl,_⟩:=At.form hls;unfold maxLen at hl2;obtain ⟨g3,cap3,eg3,hBg3,hgD3,hgw3,hc13,hc23,hx3,hf3⟩:=HH4.out.2.1.get (i:=r) (by omega);rw [hlen] at eg3;simp only [Value.slice.injEq,Option.some.injEq,Addr.mk.injEq,and_true,true_and] at eg3;obtain ⟨rfl,rfl⟩:=eg3;rw [zeh] at hx3;have hne:=z0t W6;have m0:=zi (a:=⟨cb,0,none⟩) hcbw (zf (p:=0) HC4);have m1:=zi (a:=⟨cb,1,none⟩) hcbw (zf (p:=1) HC4);have m2:=zi (a:=⟨cb,2,none⟩) hcbw (zf (p:=2) HC4);have m3:=zi (a:=⟨cb,3,none⟩) hcbw (zf (p:=3) HC4);have m4:=zi (a:=⟨cb,4,none⟩) hcbw (zf (p:=4) HC4);have m5:=zi (a:=⟨W5.heap.size,r,none⟩) hgw3 hx3;have m6:=zi (a:=⟨bl,offl+k,none⟩) hlb hlx;have KH0:=Hd (fun (p:BW W6)=>z33 (zdD (.slice (some ⟨W5.heap.size,0,none⟩) R R) (hsL cs R r k) (by omega) x hxo p.u (HH4.out.2.1.at.kept p.h)));simp only [HXe.out.1,HXe.out.2,HHi.out] at KH0;have HN:=Hd (fun W (h:Below W6.heap.size W6 W)=>HH4.out.set (r:=r) (by rw [hlen];exact hlt) h (max (z3c cs r k) (((ls.getD k []).length:Int) - ((z0b cs r).sum - zF (z0b cs r) a))));have HSt:=Hd HS.out.symm;simp only [HSt.out] at HN;clear HS HSt hx3 hls hf3 HCv HXe HHi hc13 hc23 hgD3 hBg3 HC4 hxo;generalize (ls.getD k []).length=n at m6 HN hm1;generalize (z0b cs r).sum - zF (z0b cs r) a=Y at KH0 HN hsp;generalize z3c cs r k=y at hcb m5 HN KH0;have HAL:=Hd (zhH y (n:Int) Y);have t3:(r:Int) < (R:Int):=(by omega);have t4:(k:Int) < ((gOf t).cells.length:Int):=(by omega);refine z17 16 hmx (by rfl) (by rfl) (by kernel_rfl) (by kernel_rfl) ?_;simp only [List.take_succ_cons,List.take_zero];repeat (go_big_quiet_step (first | (go_at_call 78;refine KH0.out _)))
    refine wpQuiet_nil ?_;intro W7 hw';obtain ⟨⟨Wx,hW7⟩,hw''⟩:=hw';subst hw'';have HN7:=Hd (HN.out _ hW7);rw [← HAL.out] at HN7;obtain ⟨g5,cap5,e5,_,_,hgw5,_,_,hx5,hf5⟩:=(HH4.out.2.1.kept (fun j h0 _ _=>hW7.block j h0)).get (i:=r) (by rw [hlen];exact hlt);simp only [Value.slice.injEq,Option.some.injEq,Addr.mk.injEq,and_true] at e5;have eg:=e5.1;clear e5;subst eg;clear m0 m1 m2 m3 m4 m5 m6 HN hne KH0 hW7 HH4;rw [if_pos (by rfl)];go_simp;go_wp2;go_roundw
    case rel=>exact ⟨k+1,by go_num,by omega,HN7⟩
    case measure=>simp [intOf];omega
end
section
open Go.RowKit
theorem zf7 {cs:List z0F} (hc:∀ c ∈ cs,c.2.2≤1000) (R:Nat):∀ x ∈ z0b cs R,0≤x∧x≤1000:=fun x hx=>⟨z5a cs R x hx,z7b (by omega) cs hc R x hx⟩
theorem zgQ {t:T} {x:Int} (hp:(z1j t x).length ≠ 0):zC t=true∧(0≤x∧x≤300)∧z1j t x=z6V t (z0d t x)∧z4W t x=z16 t (z0d t x) (gOf t).cells:=by
 unfold z1j at hp;unfold z1j z4W;by_cases h:(zC t && inB x 0 300)=true
 ·rw [if_pos h,if_pos h];rw [Bool.and_eq_true] at h;exact ⟨h.1,by simpa [inB] using h.2,rfl,rfl⟩
 ·rw [if_neg h] at hp;exact absurd rfl hp
structure HgF (t:T) (RL:List Int) (LL:List (List ByteArray)):Prop where
 len:RL.length=t.rows.length
 lln:LL.length=(gOf t).cells.length
 hold:∀ k,k < (gOf t).cells.length→¬ z7n RL ((gOf t).cells.getD k dG) < ((LL.getD k []).length:Int)
 need:∀ r,r < t.rows.length→RL.getD r 0=0∨∃ k,k < (gOf t).cells.length∧(r:Int)=((gOf t).cells.getD k dG).row+((gOf t).cells.getD k dG).rows - 1∧z7n RL ((gOf t).cells.getD k dG)=((LL.getD k []).length:Int)
 small:∀ k,k < (gOf t).cells.length→(0≤((gOf t).cells.getD k dG).row∧((gOf t).cells.getD k dG).row≤8)∧1≤((gOf t).cells.getD k dG).rows∧((gOf t).cells.getD k dG).rows≤8
def zkc (P:Nat→Bool) (b:Bool):Nat→Bool
 | 0=>b
 | k+1=>zkc P b k || P k
end
end Go.Proofs.YtggmjiddadjilamGreat
