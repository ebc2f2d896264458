/-
  PROVED HERE: how many borders that can be seen the model's BrdShown counts, at a drawn table. Also: 2 more texts of the same proof.
-/
import Derived.Test.YtggmjiddadjilagB23
import Derived.Test.YtggmjiddadjilagB18
set_option maxRecDepth 1000000
set_option maxHeartbeats 40000000
namespace Go.Proofs.Ytggmjiddadjilag
open Go.RowKit Go.BigFrame
theorem z4A (ac ar:Option Addr) (cc cr:Nat) (t:T) (hD:z0w t) (w:World) {z:Nat} (hC:zV w z (.slice ac t.cols.length cc) t.cols) (hW:zD w z (.slice ar t.rows.length cr) t.rows) :
  Calls Try.prog 36 #[.agg #[.slice ac t.cols.length cc,.int .i64 t.head,.int .i64 t.foot,.slice ar t.rows.length cr,.int .i64 t.gap]] w fun e w'=>e=.returned (.int .i64 ((z0C (z0e t) (z0e t).length:Nat):Int))∧Below w.heap.size w w':=by
 have HK0:=Hd (zb (Below.refl w.heap.size w) (.cells #[.slice ac t.cols.length cc,.int .i64 t.head,.int .i64 t.foot,.slice ar t.rows.length cr,.int .i64 t.gap] 49));have HX0:=Hd (zh w (.cells #[.slice ac t.cols.length cc,.int .i64 t.head,.int .i64 t.foot,.slice ar t.rows.length cr,.int .i64 t.gap] 49));have HT0:Hid (TA (w.alloc (.cells #[.slice ac t.cols.length cc,.int .i64 t.head,.int .i64 t.foot,.slice ar t.rows.length cr,.int .i64 t.gap] 49)) z ac ar cc cr t):=TA.kept ⟨hC,hW⟩ HK0.out;have KF:=Hd (fun W (h:TA W z ac ar cc cr t)=>z3E ac ar cc cr t hD W h.1 h.2);have hlen:=z4r hD;clear hC hW hD;generalize z0e t=l at KF hlen ⊢;go_enter Try.func36,Try.ntmps36;go_upto_region 1 with fail
 generalize w.alloc (.cells #[.slice ac t.cols.length cc,.int .i64 t.head,.int .i64 t.foot,.slice ar t.rows.length cr,.int .i64 t.gap] 49)=W0 at HK0 HX0 HT0 ⊢;obtain ⟨b0,b1,b2,b3,b4⟩:=z0z HX0.out;go_wp2_with fail
 refine (KF.out _ HT0.out).mono ?_;rintro e W1 ⟨v,rfl,hF,hb1⟩;obtain ⟨av,cv,rfl,_⟩:=At.form hF;have HF:=Hd hF;have HK1:=Hd (zc HK0.out hb1);clear hF hb1 b0 b1 b2 b3 b4 HX0 HK0 HT0 KF;go_wp2_with fail
 go_loopw [4,5] (fun n i W=>∃ k:Nat,k≤l.length∧i=.int .i64 (k:Int)∧n=.int .i64 ((z0C l k:Nat):Int)∧Hid (Below W1.heap.size W1 W)) (fun _ i _=>l.length - (intOf i).toNat)
 case atStart=>exact ⟨0,Nat.zero_le _,rfl,by rw [z2J];rfl,Below.refl _ _⟩
 case round =>
  obtain ⟨k,hk,rfl,rfl,HB⟩:=hrel;by_cases hlt:k < l.length
  case neg =>
   obtain rfl:k=l.length:=by omega
   have HKe:=Hd (HK1.out.trans (HB.out.mono HK1.out.size));go_wp2;go_ret;exact ⟨rfl,HKe.out⟩
  case pos =>
   obtain ⟨b,off,cap',e',hc1,hc2,hbl,x0,x1,x2⟩:=At.get (HF.out.kept HB.out) hlt;simp only [Value.slice.injEq,true_and] at e';obtain ⟨rfl,rfl⟩:=e';unfold maxLen at hc2;have HN:=Hd (z2K hlt);have hn:=z3I l k;generalize l.getD k dF=x at x0 x1 x2 HN;generalize z0C l k=n at HN hn ⊢;have hlt':(k:Int) < (l.length:Int):=(by omega);have hwn:IntKind.i64.wrap ((n:Int)+1)=((n+1:Nat):Int):=(by rw [IntKind.wrap_i64];omega);have hsb:shB x=inB x.s 1 3:=(by simp [shB,inB]);rw [hsb] at HN;go_wp2_with fail
   refine (z03 x.s 1 3 _).mono ?_;rintro e W5 ⟨rfl,rfl⟩;clear x0 x1 x2 hsb
   cases hi:inB x.s 1 3 with
   | true =>
    have HY:Hid (z0C l (k+1)=n+1):=(by show _=_;rw [HN.out,if_pos hi]);clear hi HN;go_wp2;go_roundw
    case rel=>exact ⟨k+1,by omega,by go_num,by rw [HY.out];rfl,HB⟩
    case measure=>simp [intOf];omega
   | false =>
    have HY:Hid (z0C l (k+1)=n):=(by show _=_;rw [HN.out,if_neg (by rw [hi];simp)];rfl);clear hi HN;go_wp2;go_roundw
    case rel=>exact ⟨k+1,by omega,by go_num,by rw [HY.out],HB⟩
    case measure=>simp [intOf];omega
theorem z5e (v1 v2:Value) (qs:List Fr) (w:World) {z1 z2:Nat} (h1:z0u w z1 v1 qs) (h2:z0u w z2 v2 qs) :
  Calls Try.prog 33 #[v1,v2] w fun e w'=>e=.returned (.bool true)∧Below w.heap.size w w':=by
 obtain ⟨a1,cap1,rfl,hlen⟩:=At.form h1;obtain ⟨a2,cap2,rfl,_⟩:=At.form h2;unfold maxLen at hlen;have hmx:Try.prog.follows .mixedOrders=true:=(by kernel_rfl);have hne:((qs.length:Int) != (qs.length:Int))=false:=(by simp);have H1:=Hd h1;have H2:=Hd h2;clear h1 h2;go_enter Try.func33,Try.ntmps33;go_wp2_with fail
 go_loopw [5] (fun i W=>∃ k:Nat,k≤qs.length∧i=.int .i64 k∧Hid (Below w.heap.size w W)) (fun i _=>qs.length - (intOf i).toNat)
 case atStart=>exact ⟨0,Nat.zero_le _,rfl,Below.refl _ _⟩
 case round =>
  obtain ⟨k,hk,rfl,HB⟩:=hrel;by_cases hlt:k < qs.length
  ·obtain ⟨b1,off1,cap1',e1,hc11,hc12,hbl1,x0,x1,x2⟩:=At.get (H1.out.kept HB.out) hlt;simp only [Value.slice.injEq,true_and] at e1;obtain ⟨rfl,rfl⟩:=e1;obtain ⟨b2,z2b,cap2',e2,hc21,hc22,hbl2,y0,y1,y2⟩:=At.get (H2.out.kept HB.out) hlt;simp only [Value.slice.injEq,true_and] at e2;obtain ⟨rfl,rfl⟩:=e2;unfold maxLen at hc12 hc22;generalize qs.getD k dF=q at x0 x1 x2 y0 y1 y2;have f0:(q.s == q.s)=true:=(by simp);have f1:(q.w == q.w)=true:=(by simp);have f2:(q.c == q.c)=true:=(by simp);have hne2:=z1r wr;have m0:=zf hbl1 x0;have m1:=zf hbl1 x1;have m2:=zf hbl1 x2;have m4:=zf hbl2 y0;have m5:=zf hbl2 y1;have m6:=zf hbl2 y2;clear x0 x1 x2 y0 y1 y2;go_upto_region 6 with fail
   refine z09 hmx (by kernel_rfl) ?_;repeat (go_big_quiet_step (fail))
   refine wpQuiet_nil ?_;intro W5 hw';obtain ⟨⟨Wx,hW5⟩,hw''⟩:=hw';subst hw'';have HB5:=Hd (zc HB.out hW5);clear m0 m1 m2 m4 m5 m6 hne2 hW5;go_wp2;go_roundw
   case rel=>exact ⟨k+1,by omega,by go_num,HB5⟩
   case measure=>simp [intOf];omega
  ·go_wp2;go_ret;exact ⟨rfl,HB.out⟩
structure SL (w:World) (tb gb:Nat) (ac ar:Option Addr) (cc cr:Nat) (t:T) (R C:Nat) (ag:Option Addr) (ng cg:Nat) (v:Value) (al:List Fr) (W:World):Prop where
 s:St w tb ac ar cc cr t W
 g:W.heap[gb]?=some (.cells #[.int .i64 (R:Int),.int .i64 (C:Int),.slice ag ng cg] 56)
 f:z0u W w.heap.size v al
theorem z2i {w:World} {g:Nat} {o:Obj} (h:w.heap[g]?=some o):g < w.heap.size:=(bL h)
theorem SL.kept {w W W':World} {tb gb:Nat} {ac ar:Option Addr} {cc cr:Nat} {t:T} {R C:Nat} {ag:Option Addr} {ng cg:Nat} {v:Value} {al:List Fr} (h:SL w tb gb ac ar cc cr t R C ag ng cg v al W) (hb:Below W.heap.size W W'):SL w tb gb ac ar cc cr t R C ag ng cg v al W' :=
 ⟨h.s.kept hb,(hb.block gb (z2i h.g)).trans h.g,h.f.kept hb⟩
theorem z6k {t:T} (hok:zA t=true) {R C:Nat} (hgr:(gOf t).rows=R) (hgc:(gOf t).cols=C):(z0e t).length=(R+1) * C+R * (C+1) ∧
  (∀ r c:Nat,r < R+1→c < C→(z0e t).getD (r * C+c) dF=zi t r c)∧(∀ r c:Nat,r < R→c < C+1→(z0e t).getD ((R+1) * C+(r * (C+1)+c)) dF=zj t r c)∧∀ k,k < (z0e t).length→StF ((z0e t).getD k dF):=by
 have hst:=z6K hok;have e:z0e t=zJ (zi t) C (R+1) ++ zJ (zj t) (C+1) R:=(by rw [z0e,hgr,hgc,Int.toNat_natCast,Int.toNat_natCast]);rw [e] at hst ⊢;have h1:=z0Z (zi t) C (R+1);have h2:=z0Z (zj t) (C+1) R;refine ⟨by rw [List.length_append,h1,h2],fun r c hr hc=>?_,fun r c hr hc=>?_,fun k hk=>?_⟩
 ·have hlt:r * C+c < (R+1) * C:=by
   have h3:(r+1) * C≤(R+1) * C:=Nat.mul_le_mul_right C (by omega);rw [Nat.succ_mul] at h3;omega
  rw [List.getD_eq_getElem?_getD,List.getElem?_append_left (by omega),← List.getD_eq_getElem?_getD];exact z2I _ hc hr
 ·rw [List.getD_eq_getElem?_getD,List.getElem?_append_right (by omega),h1,Nat.add_sub_cancel_left,← List.getD_eq_getElem?_getD];exact z2I _ hc hr
 ·refine hst _ ?_;generalize zJ (zi t) C (R+1) ++ zJ (zj t) (C+1) R=l at hk ⊢;rw [show l.getD k dF=l[k] by simp [List.getD,hk]];exact List.getElem_mem hk
theorem z2v {a:Int} (h:0≤a∧a≤100000):wrap64 a=a:=by unfold wrap64;omega
theorem z1x {a:Int} (h:0≤a∧a≤100000):IntKind.i64.wrap a=a:=by rw [IntKind.wrap_i64];omega
theorem z6E {R C n:Nat} (hR:R≤8) (hC:C≤88) (hn:n=(R+1) * C+R * (C+1)):∃ m1 m2:Nat,m1=(R+1) * C∧m1≤900∧n≤1800∧IntKind.i64.wrap ((R:Int)+1)=(R:Int)+1∧wrap64 (((R:Int)+1) * (C:Int))=(m1:Int)∧IntKind.i64.wrap ((C:Int)+1)=(C:Int)+1∧wrap64 ((R:Int) * ((C:Int)+1))=(m2:Int)∧IntKind.i64.wrap ((m1:Int)+(m2:Int))=(n:Int):=by
 have h1:=Nat.mul_le_mul (show R+1≤9 by omega) hC;have h2:=Nat.mul_le_mul hR (show C+1≤89 by omega);have e1:((R:Int)+1) * (C:Int)=(((R+1) * C:Nat):Int):=(by rw [Int.natCast_mul,Int.natCast_add];rfl);have e2:(R:Int) * ((C:Int)+1)=((R * (C+1):Nat):Int):=(by rw [Int.natCast_mul,Int.natCast_add];rfl);refine ⟨(R+1) * C,R * (C+1),rfl,?_,?_,z1x (by omega),?_,z1x (by omega),?_,?_⟩
 ·exact Nat.le_trans h1 (by decide)
 ·rw [hn];exact Nat.le_trans (Nat.add_le_add h1 h2) (by decide)
 ·rw [e1];generalize (R+1) * C=m at h1 ⊢;exact z2v (by omega)
 ·rw [e2];generalize R * (C+1)=m at h2 ⊢;exact z2v (by omega)
 ·rw [hn];generalize (R+1) * C=m at h1 ⊢;generalize R * (C+1)=m2 at h2 ⊢;rw [Int.natCast_add];exact z1x (by omega)
theorem z7e {R C r c:Nat} (hR:R≤8) (hC:C≤88) (hr:r < R+1) (hc:c < C):∃ m q:Nat,q=r * C+c∧wrap64 ((r:Int) * (C:Int))=(m:Int)∧IntKind.i64.wrap ((m:Int)+(c:Int))=(q:Int)∧q < (R+1) * C+R * (C+1):=by
 have h1:=Nat.mul_le_mul (show r≤9 by omega) hC;have h3:(r+1) * C≤(R+1) * C:=Nat.mul_le_mul_right C (by omega);rw [Nat.succ_mul] at h3;refine ⟨r * C,r * C+c,rfl,?_,?_,?_⟩
 ·rw [← Int.natCast_mul];generalize r * C=m at h1 ⊢;exact z2v (by omega)
 ·generalize r * C=m at h1 ⊢;rw [Int.natCast_add];exact z1x (by omega)
 ·generalize r * C=m at h3 ⊢;generalize (R+1) * C=m2 at h3 ⊢;generalize R * (C+1)=m3;omega
theorem z7f {R C r c m1:Nat} (hR:R≤8) (hC:C≤88) (hm:m1=(R+1) * C) (hr:r < R) (hc:c < C+1):∃ m q1 q:Nat,q=(R+1) * C+(r * (C+1)+c)∧wrap64 ((r:Int) * ((C:Int)+1))=(m:Int)∧IntKind.i64.wrap ((m1:Int)+(m:Int))=(q1:Int)∧IntKind.i64.wrap ((q1:Int)+(c:Int))=(q:Int)∧q < (R+1) * C+R * (C+1):=by
 have h1:=Nat.mul_le_mul (show r≤9 by omega) (show C+1≤89 by omega);have h2:=Nat.mul_le_mul (show R+1≤9 by omega) hC;have h3:(r+1) * (C+1)≤R * (C+1):=Nat.mul_le_mul_right (C+1) (by omega);rw [Nat.succ_mul] at h3;have e2:(r:Int) * ((C:Int)+1)=((r * (C+1):Nat):Int):=(by rw [Int.natCast_mul,Int.natCast_add];rfl);subst hm;refine ⟨r * (C+1),(R+1) * C+r * (C+1),(R+1) * C+(r * (C+1)+c),rfl,?_,?_,?_,?_⟩
 ·rw [e2];generalize r * (C+1)=m at h1 ⊢;exact z2v (by omega)
 ·generalize r * (C+1)=m at h1 ⊢;generalize (R+1) * C=m2 at h2 ⊢;rw [Int.natCast_add];exact z1x (by omega)
 ·generalize r * (C+1)=m at h1 ⊢;generalize (R+1) * C=m2 at h2 ⊢;rw [show ((m2+(m+c):Nat):Int)=((m2+m:Nat):Int)+(c:Int) by omega];exact z1x (by omega)
 ·generalize r * (C+1)=m at h3 ⊢;generalize (R+1) * C=m2;generalize R * (C+1)=m3 at h3 ⊢;omega
theorem z6F {t:T} (h:zA t=false):z0e t=[]∧((z0C (z0e t) (z0e t).length:Nat):Int)=0:=by
 have e:z0e t=[]:=by
  unfold z0e;rw [z3n h];rfl
 rw [e];exact ⟨rfl,rfl⟩
structure BlJ (ac ar a4:Option Addr) (cc cr c4 z:Nat) (t:T) (al:List Fr) (sn:Int) (W3:World) (L:Nat→Bool) (W:World) (v20 v21 v22 v23 v24 v25 v26 v27 v28 v29 v30 v31:Value):Prop where
 f0:L 0=true→v20=.slice a4 al.length c4
 f1:L 1=true→v21=.agg #[.slice ac t.cols.length cc,.int .i64 t.head,.int .i64 t.foot,.slice ar t.rows.length cr,.int .i64 t.gap]
 f2:L 2=true→z0u W z v22 al
 f3:L 3=true→v23=.bool true
 f4:L 4=true→v24=.bool false
 f5:L 5=true→v25=.bool false
 f6:L 6=true→v26=.agg #[.slice ac t.cols.length cc,.int .i64 t.head,.int .i64 t.foot,.slice ar t.rows.length cr,.int .i64 t.gap]
 f7:L 7=true→v27=.int .i64 sn
 f8:L 8=true→v28=.agg #[.slice ac t.cols.length cc,.int .i64 t.head,.int .i64 t.foot,.slice ar t.rows.length cr,.int .i64 t.gap]
 f9:L 9=true→v29=.int .i64 sn
 f10:L 10=true→v30=.bool false
 f11:L 11=true→v31=.bool false
 b:Below W3.heap.size W3 W
theorem z5g (A:Option Addr) (len cap:Nat) (hlen:len≤1048576) (w:World) (h:z1d w A len cap) :
  Calls Try.prog 7 #[.slice A len cap] w fun e w'=>e=.returned (.bool true)∧Below w.heap.size w w':=by
 have hl:¬ (1048576:Int) < (len:Int):=(by omega);have hmx:Try.prog.follows .mixedOrders=true:=(by kernel_rfl);have HD:=Hd h;clear h;go_enter Try.func7,Try.ntmps7;go_wp2_with fail
 refine (z3K _ _ _ _ HD.out).mono ?_;rintro e w1 ⟨ac,ar,cc,cr,t,rfl,hD,hC1,hW1,hb1⟩;have HS:Hid (St w w1.heap.size ac ar cc cr t (w1.alloc (.cells #[.slice ac t.cols.length cc,.int .i64 t.head,.int .i64 t.foot,.slice ar t.rows.length cr,.int .i64 t.gap] 49))):=⟨hb1.alloc hb1.size _,TA.kept ⟨hC1,hW1⟩ (zb (Below.refl _ _) _),zh _ _⟩;obtain ⟨R,C,hgr,hgc,hR8,hC88⟩:=z2t hD;have HBi:=Hd (fun W (h:TA W w.heap.size ac ar cc cr t)=>z3y ac ar cc cr t hD W h.1 h.2);have HBs:=Hd (fun W (h:TA W w.heap.size ac ar cc cr t)=>z3E ac ar cc cr t hD W h.1 h.2);have HSh:=Hd (fun W (h:TA W w.heap.size ac ar cc cr t)=>z4w ac ar cc cr t hD W h.1 h.2);have HSs:=Hd (fun W (h:TA W w.heap.size ac ar cc cr t)=>z4A ac ar cc cr t hD W h.1 h.2);have HOs:=Hd (fun W (h:TA W w.heap.size ac ar cc cr t)=>z2C ac ar cc cr t W h.1 h.2);have HGi:Hid (∀ W,TA W w.heap.size ac ar cc cr t→Calls Try.prog 28 #[.agg #[.slice ac t.cols.length cc,.int .i64 t.head,.int .i64 t.foot,.slice ar t.rows.length cr,.int .i64 t.gap]] W fun e w'=>∃ ag ng cg,e=.returned (.agg #[.int .i64 (R:Int),.int .i64 (C:Int),.slice ag ng cg])∧Below W.heap.size W w'):=fun W h=>(z3V ac ar cc cr t hD W h.1 h.2).mono (fun e w' ⟨vg,he,hO,hb⟩=>by obtain ⟨ag,cg,rfl⟩:=z2G hO;exact ⟨ag,_,cg,by rw [he,hgr,hgc],hb⟩);have KA:=Hd (fun W (h:TA W w.heap.size ac ar cc cr t) (r c:Int) (hr:-1000≤r∧r≤1000) (hc:-1000≤c∧c≤1000)=>z45 ac ar cc cr t hD r c hr hc W h.1 h.2);have KB:=Hd (fun W (h:TA W w.heap.size ac ar cc cr t) (r c:Int) (hr:-1000≤r∧r≤1000) (hc:-1000≤c∧c≤1000)=>z46 ac ar cc cr t hD r c hr hc W h.1 h.2);have HFs:=Hd (fun hok=>z6k (t:=t) hok hgr hgc);have HNo:=Hd (fun hok=>z6F (t:=t) hok);clear hC1 hW1 hb1 hD HD hgr hgc;obtain ⟨sn,hsn⟩:∃ sn:Int,((z0C (z0e t) (z0e t).length:Nat):Int)=sn:=⟨_,rfl⟩;rw [hsn] at HSh HSs HNo;have HSn:=Hd hsn;clear hsn;generalize z0e t=al at HBi HBs HFs HNo HSn;generalize zi t=fa at KA HFs;generalize zj t=fb at KB HFs;generalize zA t=bt at HOs HFs HNo;go_upto_region 4 with fail
 generalize w1.alloc (.cells #[.slice ac t.cols.length cc,.int .i64 t.head,.int .i64 t.foot,.slice ar t.rows.length cr,.int .i64 t.gap] 49)=W1 at HS ⊢;generalize w1.heap.size=tb at HS ⊢;obtain ⟨z0,z1,z2,z3,z4⟩:=HS.out.at;go_wp2_with fail
 refine (HBi.out _ HS.out.2.1).mono ?_;rintro e W3 ⟨v4,rfl,hF,hb3⟩;have HF:=Hd (hF.base (z':=w.heap.size) HS.out.1.size);obtain ⟨a4,c4,rfl,_⟩:=At.form hF;replace HS:=Hd (HS.out.kept hb3);clear hF hb3 z0 z1 z2 z3 z4 HBi;go_upto_region 5 with fail
 have htb:=z2i HS.out.2.2;have KS:Hid (∀ W,Below W3.heap.size W3 W→Calls Try.prog 34 #[.agg #[.slice ac t.cols.length cc,.int .i64 t.head,.int .i64 t.foot,.slice ar t.rows.length cr,.int .i64 t.gap]] W fun e w'=>∃ v,e=.returned v∧z0u w' w.heap.size v al∧Below W.heap.size W w'):=fun W h=>(HBs.out W (HS.out.kept h).2.1).mono (fun e w' ⟨v,he,hF,hb⟩=>⟨v,he,hF.base (z':=w.heap.size) (HS.out.kept h).1.size,hb⟩);have KI:=Hd (fun W (h:Below W3.heap.size W3 W)=>HSh.out W (HS.out.kept h).2.1);have KM:=Hd (fun W (h:Below W3.heap.size W3 W)=>HSs.out W (HS.out.kept h).2.1);clear HBs HSs;refine z0g (fun L act W=>∃ v20 v21 v22 v23 v24 v25 v26 v27 v28 v29 v30 v31:Value,act=⟨#[.slice A len cap,undef,.bool false,.pointer (some ⟨tb,0,none⟩),.slice a4 al.length c4,undef,undef,undef,undef,undef,undef,undef,undef,.slice A len cap,.int .i64 (len:Int),.bool false,.slice A len cap,.agg #[.slice ac t.cols.length cc,.int .i64 t.head,.int .i64 t.foot,.slice ar t.rows.length cr,.int .i64 t.gap],.agg #[.slice ac t.cols.length cc,.int .i64 t.head,.int .i64 t.foot,.slice ar t.rows.length cr,.int .i64 t.gap],.slice a4 al.length c4,v20,v21,v22,v23,v24,v25,v26,v27,v28,v29,v30,v31,undef,undef,undef,undef,undef,undef,undef,undef,undef,undef,undef,undef,undef,undef,undef,undef,undef,undef,undef,undef,undef,undef,undef,undef,undef,undef,undef,undef,undef,undef,undef,undef,undef,undef,undef,undef,undef,undef,undef,undef,undef,undef,undef,undef,undef,undef,undef,undef,undef,undef,undef,undef,undef,undef,undef,undef,undef,undef,undef,undef,undef,undef,undef,undef,undef,undef,undef,undef,undef,undef,undef,undef,undef,undef,undef,undef,undef,undef,undef,undef,undef,undef,undef,undef,undef,undef,undef,undef,undef,undef,undef,undef,undef,undef,undef,undef,undef,undef,undef,undef,undef,undef,undef,undef,undef,undef,undef,undef,undef,undef,undef,undef,undef,undef,undef,undef,undef,undef,undef,undef,undef],[]⟩∧BlJ ac ar a4 cc cr c4 w.heap.size t al sn W3 L W v20 v21 v22 v23 v24 v25 v26 v27 v28 v29 v30 v31) hmx (by kernel_rfl) ?hs ?hd ?h0
 case h0=>exact ⟨_,_,_,_,_,_,_,_,_,_,_,_,rfl,⟨(fun h=>by cases h),(fun h=>by cases h),(fun h=>by cases h),(fun h=>by cases h),(fun h=>by cases h),(fun h=>by cases h),(fun h=>by cases h),(fun h=>by cases h),(fun h=>by cases h),(fun h=>by cases h),(fun h=>by cases h),(fun h=>by cases h),z1y (Below.refl _ _)⟩⟩
 case hd =>
  intro L act W hJ hall;obtain ⟨v20,v21,v22,v23,v24,v25,v26,v27,v28,v29,v30,v31,ha,J⟩:=hJ;subst ha;obtain rfl:=J.f11 (hall 11 (by decide));replace HS:=Hd (HS.out.kept J.b);replace HF:=Hd (HF.out.kept J.b);clear J hall KS KI KM htb;obtain ⟨z0,z1,z2,z3,z4⟩:=HS.out.at;go_wp2_with fail
  refine (HOs.out _ HS.out.2.1).mono ?_;rintro e W4 ⟨rfl,hb4⟩;replace HS:=Hd (HS.out.kept hb4);replace HF:=Hd (HF.out.kept hb4);clear hb4 z0 z1 z2 z3 z4
  cases bt with
  | false=>as_aux_lemma =>
   obtain ⟨hal,hsn⟩:=HNo.out (by first | rfl | trivial);subst hal;clear HFs HNo;obtain ⟨z0,z1,z2,z3,z4⟩:=HS.out.at;go_wp2_with fail
   refine (HSh.out _ HS.out.2.1).mono ?_;rintro e W5 ⟨rfl,hb5⟩;rw [hsn];have HK:=Hd (HS.out.kept hb5).1;clear hb5 z0 z1 z2 z3 z4 HSh HOs HS HF;go_wp2_with fail
   refine (z6j _).mono ?_;rintro e wa ⟨rfl,rfl⟩;go_wp2;go_ret;exact ⟨rfl,HK.out⟩
  | true=>as_aux_lemma =>
   obtain ⟨hlen,hga,hgb,hst⟩:=HFs.out (by first | rfl | trivial);have HLen:=Hd hlen;have HGa:=Hd hga;have HGb:=Hd hgb;have HStF:=Hd hst;clear HFs HNo hlen hga hgb hst HOs;obtain ⟨z0,z1,z2,z3,z4⟩:=HS.out.at;go_wp2_with fail
   refine (HGi.out _ HS.out.2.1).mono ?_;rintro e W5 ⟨ag,ng,cg,rfl,hb5⟩;have HL:Hid (SL w tb W5.heap.size ac ar cc cr t R C ag ng cg (.slice a4 al.length c4) al (W5.alloc (.cells #[.int .i64 (R:Int),.int .i64 (C:Int),.slice ag ng cg] 56))):=⟨(HS.out.kept hb5).kept (zb (Below.refl _ _) _),zh _ _,(HF.out.kept hb5).kept (zb (Below.refl _ _) _)⟩;clear hb5 z0 z1 z2 z3 z4 HS HF HGi;go_upto_region 10 with fail
   generalize W5.alloc (.cells #[.int .i64 (R:Int),.int .i64 (C:Int),.slice ag ng cg] 56)=W6 at HL ⊢;generalize W5.heap.size=gb at HL ⊢;obtain ⟨z0,z1,z2,z3,z4⟩:=HL.out.s.at;obtain ⟨⟨g0,g1,g2⟩,_⟩:=z0r HL.out.g;obtain ⟨m1,m2,hm1,hb1,hal,hw1,hw2,hw3,hw4,hw5⟩:=z6E hR8 hC88 HLen.out;have HM1:=Hd hm1;clear hm1;have hnn:((al.length:Int) != (al.length:Int))=false:=(by simp);go_wp2_with fail
   clear z0 z1 z2 z3 z4 g0 g1 g2 hnn hw5 hw4;go_loopw [6,7] (fun n i W=>∃ k:Nat,k≤al.length∧i=.int .i64 (k:Int)∧n=.int .i64 ((z0C al k:Nat):Int)∧Hid (SL w tb gb ac ar cc cr t R C ag ng cg (.slice a4 al.length c4) al W)) (fun _ i _=>al.length - (intOf i).toNat)
   case atStart=>exact ⟨0,Nat.zero_le _,rfl,by rw [z2J];rfl,HL⟩
   case round =>
    obtain ⟨k,hk,rfl,rfl,HL⟩:=hrel;by_cases hlt:k < al.length
    case pos=>as_aux_lemma =>
     obtain ⟨b,off,cap',e',hc1,hc2,hbl,x0,x1,x2⟩:=At.get HL.out.f hlt;simp only [Value.slice.injEq,true_and] at e';obtain ⟨rfl,rfl⟩:=e';unfold maxLen at hc2;have HN:=Hd (z2K hlt);have hn:=z3I al k;have hst:=HStF.out k hlt;generalize al.getD k dF=x at x0 x1 x2 HN hst;generalize z0C al k=n at HN hn ⊢;have hlt':(k:Int) < (al.length:Int):=(by omega);have hwn:IntKind.i64.wrap ((n:Int)+1)=((n+1:Nat):Int):=(by rw [IntKind.wrap_i64];omega);unfold StF at hst;by_cases h0:x.s=0
     ·have HY:Hid (z0C al (k+1)=n):=(by show _=_;rw [HN.out,if_neg (by simp [shB,h0])];rfl);rw [h0] at x0;clear HN;go_wp2;go_roundw
      case rel=>exact ⟨k+1,by omega,by go_num,by rw [HY.out],HL⟩
      case measure=>simp [intOf];omega
     ·have e0:(x.s != 0)=true:=(by rw [bne,beq_eq_false_iff_ne.2 h0];rfl);by_cases h4:x.s=4
      ·have HY:Hid (z0C al (k+1)=n):=(by show _=_;rw [HN.out,if_neg (by simp [shB,h4])];rfl);rw [h4] at x0;clear HN e0;go_wp2;go_roundw
       case rel=>exact ⟨k+1,by omega,by go_num,by rw [HY.out],HL⟩
       case measure=>simp [intOf];omega
      ·have e4:(x.s != 4)=true:=(by rw [bne,beq_eq_false_iff_ne.2 h4];rfl)
       have HY:Hid (z0C al (k+1)=n+1):=by
        show _=_;rw [HN.out,if_pos];simp only [shB,Bool.and_eq_true,decide_eq_true_eq];omega
       clear HN;go_wp2;go_roundw
       case rel=>exact ⟨k+1,by omega,by go_num,by rw [HY.out];rfl,HL⟩
       case measure=>simp [intOf];omega
    case neg =>
    have hkn:k=al.length:=(by omega);have hkf:¬ (k:Int) < (al.length:Int):=(by omega);rw [hkn,HSn.out];clear HStF;go_wp2_with fail
    go_loopw [8] (fun i W=>∃ r:Nat,i=.int .i64 (r:Int)∧r≤R+1∧Hid (SL w tb gb ac ar cc cr t R C ag ng cg (.slice a4 al.length c4) al W)) (fun i _=>R+1 - (intOf i).toNat)
    case atStart=>exact ⟨0,rfl,Nat.zero_le _,HL⟩
    case round =>
     obtain ⟨r,rfl,hr,HL⟩:=hrel;obtain ⟨z0,z1,z2,z3,z4⟩:=HL.out.s.at;obtain ⟨⟨g0,g1,g2⟩,_⟩:=z0r HL.out.g;by_cases hrR:r < R+1
     case neg =>
      have hrf:¬ (r:Int)≤(R:Int):=(by omega);go_wp2_with fail
      clear z0 z1 z2 z3 z4 g0 g1 g2;go_loopw [11] (fun i W=>∃ r:Nat,i=.int .i64 (r:Int)∧r≤R∧Hid (SL w tb gb ac ar cc cr t R C ag ng cg (.slice a4 al.length c4) al W)) (fun i _=>R - (intOf i).toNat)
      case atStart=>exact ⟨0,rfl,Nat.zero_le _,HL⟩
      case round =>
       obtain ⟨r,rfl,hr,HL⟩:=hrel;obtain ⟨z0,z1,z2,z3,z4⟩:=HL.out.s.at;obtain ⟨⟨g0,g1,g2⟩,_⟩:=z0r HL.out.g;by_cases hrR:r < R
       case neg =>
        have hrf:¬ (r:Int) < (R:Int):=(by omega);clear HLen HGa HGb KA KB;go_wp2_with fail
        refine (HSh.out _ HL.out.s.2.1).mono ?_;rintro e W7 ⟨rfl,hb7⟩;have HK7:=Hd (HL.out.kept hb7).s.1;have hee:(sn == sn)=true:=(by simp);clear hb7 z0 z1 z2 z3 z4 g0 g1 g2;go_wp2;go_ret;exact ⟨rfl,HK7.out⟩
       case pos =>
       have hrt:(r:Int) < (R:Int):=(by omega);go_wp2_with fail
       go_loopw [12] (fun i W=>∃ c:Nat,i=.int .i64 (c:Int)∧c≤C+1∧Hid (SL w tb gb ac ar cc cr t R C ag ng cg (.slice a4 al.length c4) al W)) (fun i _=>C+1 - (intOf i).toNat)
       case atStart=>exact ⟨0,rfl,Nat.zero_le _,HL⟩
       case round =>
        clear z0 z1 z2 z3 z4 g0 g1 g2;obtain ⟨c,rfl,hc,HL⟩:=hrel;obtain ⟨z0,z1,z2,z3,z4⟩:=HL.out.s.at;obtain ⟨⟨g0,g1,g2⟩,_⟩:=z0r HL.out.g;by_cases hcC:c < C+1
        case neg =>
         have hcf:¬ (c:Int)≤(C:Int):=(by omega);go_wp2;go_roundw
         case rel=>exact ⟨r+1,by go_num,by omega,HL⟩
         case measure=>simp [intOf];omega
        case pos=>as_aux_lemma =>
         have hct:(c:Int)≤(C:Int):=(by omega);obtain ⟨m,q1,q,hq,hw6,hw7,hw8,hql⟩:=z7f hR8 hC88 HM1.out hrR hcC;rw [← HLen.out] at hql;have hget:=HGb.out r c hrR hcC;rw [← hq] at hget;clear hq;obtain ⟨b,off,cap',e',hc1,hc2,hbl,x0,x1,x2⟩:=At.get HL.out.f hql;simp only [Value.slice.injEq,true_and] at e';obtain ⟨rfl,rfl⟩:=e';unfold maxLen at hc2;rw [hget] at x0 x1 x2;have KC:=Hd (fun (p:BW wr)=>z3c (KB.out p.u (HL.out.kept p.h).s.2.1 (r:Int) (c:Int) (by omega) (by omega)));generalize fb (r:Int) (c:Int)=x at x0 x1 x2 KC;have f0:(x.s == x.s)=true:=(by simp);have f1:(x.w == x.w)=true:=(by simp);have f2:(x.c == x.c)=true:=(by simp);have hql':(q:Int) < (al.length:Int):=(by omega);have hne:=z1r wr;have htb:=z2i HL.out.s.2.2;have hgb:=z2i HL.out.g;have m0:=zf (a:=⟨tb,0,none⟩) htb (ze (p:=0) HL.out.s.2.2);have m9:=zf (a:=⟨tb,1,none⟩) htb (ze (p:=1) HL.out.s.2.2);have m2:=zf (a:=⟨tb,2,none⟩) htb (ze (p:=2) HL.out.s.2.2);have m3:=zf (a:=⟨tb,3,none⟩) htb (ze (p:=3) HL.out.s.2.2);have m4:=zf (a:=⟨tb,4,none⟩) htb (ze (p:=4) HL.out.s.2.2);have n1:=zf (a:=⟨gb,1,none⟩) hgb (ze (p:=1) HL.out.g);have o0:=zf hbl x0;have o1:=zf hbl x1;have o2:=zf hbl x2;clear x0 x1 x2 hget;go_upto_region 33 with fail
         clear z0 z1 z2 z3 z4 g0 g1 g2;refine z09 hmx (by kernel_rfl) ?_;repeat (go_big_quiet_step (first | (go_at_call 24;refine KC.out _)))
         refine wpQuiet_nil ?_;intro W5 hw';obtain ⟨⟨Wx,hW5⟩,hw''⟩:=hw';subst hw'';have HL5:=Hd (HL.out.kept hW5);clear KC m0 m9 m2 m3 m4 n1 o0 o1 o2 hne htb hgb hW5;go_wp2;go_roundw
         case rel=>exact ⟨c+1,by go_num,by omega,HL5⟩
         case measure=>simp [intOf];omega
     case pos =>
     have hrt:(r:Int)≤(R:Int):=(by omega);go_wp2_with fail
     go_loopw [9] (fun i W=>∃ c:Nat,i=.int .i64 (c:Int)∧c≤C∧Hid (SL w tb gb ac ar cc cr t R C ag ng cg (.slice a4 al.length c4) al W)) (fun i _=>C - (intOf i).toNat)
     case atStart=>exact ⟨0,rfl,Nat.zero_le _,HL⟩
     case round =>
      clear z0 z1 z2 z3 z4 g0 g1 g2;obtain ⟨c,rfl,hc,HL⟩:=hrel;obtain ⟨z0,z1,z2,z3,z4⟩:=HL.out.s.at;obtain ⟨⟨g0,g1,g2⟩,_⟩:=z0r HL.out.g;by_cases hcC:c < C
      case neg =>
       have hcf:¬ (c:Int) < (C:Int):=(by omega);go_wp2;go_roundw
       case rel=>exact ⟨r+1,by go_num,by omega,HL⟩
       case measure=>simp [intOf];omega
      case pos=>as_aux_lemma =>
       have hct:(c:Int) < (C:Int):=(by omega);obtain ⟨m,q,hq,hw6,hw7,hql⟩:=z7e hR8 hC88 hrR hcC;rw [← HLen.out] at hql;have hget:=HGa.out r c hrR hcC;rw [← hq] at hget;clear hq;obtain ⟨b,off,cap',e',hc1,hc2,hbl,x0,x1,x2⟩:=At.get HL.out.f hql;simp only [Value.slice.injEq,true_and] at e';obtain ⟨rfl,rfl⟩:=e';unfold maxLen at hc2;rw [hget] at x0 x1 x2;have KC:=Hd (fun (p:BW wr)=>z3c (KA.out p.u (HL.out.kept p.h).s.2.1 (r:Int) (c:Int) (by omega) (by omega)));generalize fa (r:Int) (c:Int)=x at x0 x1 x2 KC;have f0:(x.s == x.s)=true:=(by simp);have f1:(x.w == x.w)=true:=(by simp);have f2:(x.c == x.c)=true:=(by simp);have hql':(q:Int) < (al.length:Int):=(by omega);have hne:=z1r wr;have htb:=z2i HL.out.s.2.2;have hgb:=z2i HL.out.g;have m0:=zf (a:=⟨tb,0,none⟩) htb (ze (p:=0) HL.out.s.2.2);have m9:=zf (a:=⟨tb,1,none⟩) htb (ze (p:=1) HL.out.s.2.2);have m2:=zf (a:=⟨tb,2,none⟩) htb (ze (p:=2) HL.out.s.2.2);have m3:=zf (a:=⟨tb,3,none⟩) htb (ze (p:=3) HL.out.s.2.2);have m4:=zf (a:=⟨tb,4,none⟩) htb (ze (p:=4) HL.out.s.2.2);have n1:=zf (a:=⟨gb,1,none⟩) hgb (ze (p:=1) HL.out.g);have o0:=zf hbl x0;have o1:=zf hbl x1;have o2:=zf hbl x2;clear x0 x1 x2 hget;go_upto_region 24 with fail
       clear z0 z1 z2 z3 z4 g0 g1 g2;refine z09 hmx (by kernel_rfl) ?_;repeat (go_big_quiet_step (first | (go_at_call 23;refine KC.out _)))
       refine wpQuiet_nil ?_;intro W5 hw';obtain ⟨⟨Wx,hW5⟩,hw''⟩:=hw';subst hw'';have HL5:=Hd (HL.out.kept hW5);clear KC m0 m9 m2 m3 m4 n1 o0 o1 o2 hne htb hgb hW5;go_wp2;go_roundw
       case rel=>exact ⟨c+1,by go_num,by omega,HL5⟩
       case measure=>simp [intOf];omega
 case hs =>
  intro L act W i o hJ hcl ho hLi haft K hK;obtain ⟨v20,v21,v22,v23,v24,v25,v26,v27,v28,v29,v30,v31,ha,J⟩:=hJ;subst ha
  have hi':i < 12:=by
   have:=(bL ho)
   simpa using this
  rcases (by omega:i=0∨i=1∨i=2∨i=3∨i=4∨i=5∨i=6∨i=7∨i=8∨i=9∨i=10∨i=11) with rfl | rfl | rfl | rfl | rfl | rfl | rfl | rfl | rfl | rfl | rfl | rfl
  all_goals
   simp only [List.getElem?_toArray,List.getElem?_cons_zero,List.getElem?_cons_succ,Option.some.injEq] at ho;subst ho;clear hi'
  ·go_simp;exact hK _ _ ⟨_,_,_,_,_,_,_,_,_,_,_,_,rfl,⟨(fun _=>rfl),uq J.f1,uq J.f2,uq J.f3,uq J.f4,uq J.f5,uq J.f6,uq J.f7,uq J.f8,uq J.f9,uq J.f10,uq J.f11,J.b⟩⟩
  ·obtain ⟨q0,q1,q2,q3,q4⟩:=(HS.out.kept J.b).at;have hl:=Nat.lt_of_lt_of_le htb J.b.size;go_simp;exact hK _ _ ⟨_,_,_,_,_,_,_,_,_,_,_,_,rfl,⟨uq J.f0,(fun _=>rfl),uq J.f2,uq J.f3,uq J.f4,uq J.f5,uq J.f6,uq J.f7,uq J.f8,uq J.f9,uq J.f10,uq J.f11,J.b⟩⟩
  ·obtain rfl:=J.f1 (Fa haft 1);go_simp;go_wp2_with (go_at_call 34;refine (KS.out W J.b).mono ?_;rintro e W2 ⟨v,rfl,hF,hb⟩)
   exact ⟨_,_,_,_,_,_,_,_,_,_,_,_,rfl,⟨uq J.f0,uq J.f1,(fun _=>hF),uq J.f3,uq J.f4,uq J.f5,uq J.f6,uq J.f7,uq J.f8,uq J.f9,uq J.f10,uq J.f11,zc J.b hb⟩⟩
  ·obtain rfl:=J.f0 (Fa haft 0);have hI2:=J.f2 (Fa haft 2);go_simp;go_wp2_with (go_at_call 33;refine (z5e _ _ al W (HF.out.kept J.b) hI2).mono ?_;rintro e W2 ⟨rfl,hb⟩)
   exact ⟨_,_,_,_,_,_,_,_,_,_,_,_,rfl,⟨uq J.f0,uq J.f1,(fun h=>(J.f2 (un h)).kept hb),(fun _=>rfl),uq J.f4,uq J.f5,uq J.f6,uq J.f7,uq J.f8,uq J.f9,uq J.f10,uq J.f11,zc J.b hb⟩⟩
  ·obtain rfl:=J.f3 (Fa haft 3);go_simp;exact hK _ _ ⟨_,_,_,_,_,_,_,_,_,_,_,_,rfl,⟨uq J.f0,uq J.f1,uq J.f2,uq J.f3,(fun _=>rfl),uq J.f5,uq J.f6,uq J.f7,uq J.f8,uq J.f9,uq J.f10,uq J.f11,J.b⟩⟩
  ·obtain rfl:=J.f4 (Fa haft 4);go_simp;exact hK _ _ ⟨_,_,_,_,_,_,_,_,_,_,_,_,rfl,⟨uq J.f0,uq J.f1,uq J.f2,uq J.f3,uq J.f4,(fun _=>rfl),uq J.f6,uq J.f7,uq J.f8,uq J.f9,uq J.f10,uq J.f11,J.b⟩⟩
  ·obtain rfl:=J.f5 (haft ⟨5,.guard⟩ (by simp) rfl);obtain ⟨q0,q1,q2,q3,q4⟩:=(HS.out.kept J.b).at;have hl:=Nat.lt_of_lt_of_le htb J.b.size;rw [if_pos (by rfl)];go_simp;exact hK _ _ ⟨_,_,_,_,_,_,_,_,_,_,_,_,rfl,⟨uq J.f0,uq J.f1,uq J.f2,uq J.f3,uq J.f4,uq J.f5,(fun _=>rfl),uq J.f7,uq J.f8,uq J.f9,uq J.f10,uq J.f11,J.b⟩⟩
  ·obtain rfl:=J.f5 (haft ⟨5,.guard⟩ (by simp) rfl);obtain rfl:=J.f6 (Fa haft 6);rw [if_pos (by rfl)];go_simp;go_wp2_with (go_at_call 35;refine (KI.out W J.b).mono ?_;rintro e W2 ⟨rfl,hb⟩)
   exact ⟨_,_,_,_,_,_,_,_,_,_,_,_,rfl,⟨uq J.f0,uq J.f1,(fun h=>(J.f2 (un h)).kept hb),uq J.f3,uq J.f4,uq J.f5,uq J.f6,(fun _=>rfl),uq J.f8,uq J.f9,uq J.f10,uq J.f11,zc J.b hb⟩⟩
  ·obtain rfl:=J.f5 (haft ⟨5,.guard⟩ (by simp) rfl);obtain ⟨q0,q1,q2,q3,q4⟩:=(HS.out.kept J.b).at;have hl:=Nat.lt_of_lt_of_le htb J.b.size;rw [if_pos (by rfl)];go_simp;exact hK _ _ ⟨_,_,_,_,_,_,_,_,_,_,_,_,rfl,⟨uq J.f0,uq J.f1,uq J.f2,uq J.f3,uq J.f4,uq J.f5,uq J.f6,uq J.f7,(fun _=>rfl),uq J.f9,uq J.f10,uq J.f11,J.b⟩⟩
  ·obtain rfl:=J.f5 (haft ⟨5,.guard⟩ (by simp) rfl);obtain rfl:=J.f8 (Fa haft 8);rw [if_pos (by rfl)];go_simp;go_wp2_with (go_at_call 36;refine (KM.out W J.b).mono ?_;rintro e W2 ⟨rfl,hb⟩)
   exact ⟨_,_,_,_,_,_,_,_,_,_,_,_,rfl,⟨uq J.f0,uq J.f1,(fun h=>(J.f2 (un h)).kept hb),uq J.f3,uq J.f4,uq J.f5,uq J.f6,uq J.f7,uq J.f8,(fun _=>rfl),uq J.f10,uq J.f11,zc J.b hb⟩⟩
  ·obtain rfl:=J.f5 (haft ⟨5,.guard⟩ (by simp) rfl);obtain rfl:=J.f7 (Fa haft 7);obtain rfl:=J.f9 (Fa haft 9);rw [if_pos (by rfl)];go_simp;exact hK _ _ ⟨_,_,_,_,_,_,_,_,_,_,_,_,rfl,⟨uq J.f0,uq J.f1,uq J.f2,uq J.f3,uq J.f4,uq J.f5,uq J.f6,uq J.f7,uq J.f8,uq J.f9,(fun _=>by first | rfl | simp),uq J.f11,J.b⟩⟩
  ·obtain rfl:=J.f5 (Fa haft 5);obtain rfl:=J.f10 (Fa haft 10);go_simp;exact hK _ _ ⟨_,_,_,_,_,_,_,_,_,_,_,_,rfl,⟨uq J.f0,uq J.f1,uq J.f2,uq J.f3,uq J.f4,uq J.f5,uq J.f6,uq J.f7,uq J.f8,uq J.f9,uq J.f10,(fun _=>rfl),J.b⟩⟩
theorem z5T (A:Option Addr) (len cap:Nat) (w:World) (h:z1d w A len cap) :
  Calls Try.prog 7 #[.slice A len cap] w fun e w'=>e=.returned (.bool true)∧Below w.heap.size w w':=by
 have hlen:len≤maxLen:=Nat.le_trans h.1 h.2.1;unfold maxLen at hlen;by_cases hbig:len≤1048576
 ·exact z5g A len cap hbig w h
 ·clear h;have hb:(1048576:Int) < (len:Int):=(by omega);go_enter Try.func7,Try.ntmps7;go_wp2;go_ret;exact ⟨rfl,Below.refl _ _⟩
end Go.Proofs.Ytggmjiddadjilag
