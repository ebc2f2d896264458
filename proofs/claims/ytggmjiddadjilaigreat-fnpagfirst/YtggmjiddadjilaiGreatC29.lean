/-
  PROVED HERE: what the program's piecesOf answers at a drawn table that is ok: the pieces of its body, in new memory; nothing that was in memory is turned. Also: 13 more texts of the same proof.
-/
import Derived.Test.YtggmjiddadjilaiGreatC28
import Derived.Test.YtggmjiddadjilaiGreatC18
import Derived.Test.YtggmjiddadjilaiGreatC10
import Derived.Test.YtggmjiddadjilaiGreatC22
set_option maxRecDepth 1000000
set_option maxHeartbeats 40000000
namespace Go.Proofs.YtggmjiddadjilaiGreat
open Go.RowKit
theorem zfD {w:World} {base:Nat} {e:TypeId} {n cap g:Nat} {xs:List Value} (h:w.ownsRow base e 1 (.slice (some ⟨g,0,none⟩) n cap) n xs):∀ j u,xs[j]?=some u→w.cell? ((⟨g,0,none⟩:Addr).add j)=some u:=by
 intro j u hj
 rcases h.2 with ⟨e,_⟩ | ⟨g',cap',cur,e,hb,hg,h1,h2,h3,h4⟩
 ·cases e
 ·simp only [Value.slice.injEq,Option.some.injEq,Addr.mk.injEq,and_true,true_and] at e;obtain ⟨rfl,rfl⟩:=e
  have hjn:j < n:=by
   have:=(List.getElem?_eq_some_iff.1 hj).1;rw [h.1] at this;omega
  rw [← h4,List.getElem?_take_of_lt (by omega)] at hj;have e2:(⟨g,0,none⟩:Addr).add j=⟨g,j,none⟩:=(by simp [Addr.add];intro h;exact h.symm);rw [e2,zf hg,← Array.getElem?_toList,hj]
theorem z5u {w w':World} {base:Nat} {e:TypeId} {sz:Nat} {v:Value} {m:Nat} {xs:List Value} (h:w.ownsRow base e sz v m xs) (hb:Below w.heap.size w w'):w'.ownsRow base e sz v m xs :=
 ⟨h.1,h.2.elim Or.inl (fun ⟨g,cap,cur,hv,hg,hc,r⟩=>Or.inr ⟨g,cap,cur,hv,hg,(hb.block g (bL hc)).trans hc,r⟩)⟩
theorem zB.cell1 {w:World} {B:Nat} {us:List Value} {ls:List (List PgS)} (h:zB w B us ls):∀ u ∈ us,u.oneCell'=true:=by
 intro u hu;obtain ⟨i,hi,rfl⟩:=List.mem_iff_getElem.1 hu;obtain ⟨a,c,e⟩:=(h.2 i (by rw [← h.1];exact hi)).form;have e2:us.getD i (.slice none 0 0)=us[i]:=(by simp [List.getD,hi]);rw [← e2,e];rfl
structure PH (w:World) (z:Nat) (ac ar:Option Addr) (cc cr:Nat) (t:T) (hs:List Int) (vh vb:Value) (bl:List Int) (W:World):Prop where
 below:Below w.heap.size w W
 box:W.heap[w.heap.size]?=some (.cells #[.slice ac t.cols.length cc,.int .i64 t.head,.int .i64 t.foot,.slice ar t.rows.length cr,.int .i64 t.gap] 33)
 ta:TA W z ac ar cc cr t
 hts:zH W vh hs
 bnd:zH W vb bl
theorem PH.kept {w:World} {z:Nat} {ac ar:Option Addr} {cc cr:Nat} {t:T} {hs:List Int} {vh vb:Value} {bl:List Int} {W W':World} (h:PH w z ac ar cc cr t hs vh vb bl W) (k:Below W.heap.size W W'):PH w z ac ar cc cr t hs vh vb bl W' :=
 ⟨zh h.below k,(k.block _ (bL h.box)).trans h.box,h.ta.kept k,h.hts.kept k,h.bnd.kept k⟩
theorem zb1 (ac ar:Option Addr) (cc cr:Nat) (t:T) (hD:zY t) (htk:zr t=true) (hs:List Int) (hl:hs.length=t.rows.length) (hb:∀ x ∈ hs,0≤x∧x≤1000) (v:Value) (w:World) {z:Nat} (hc:zX w z (.slice ac t.cols.length cc) t.cols) (hr:zT w z (.slice ar t.rows.length cr) t.rows) (hv:zH w v hs) :
  Calls Tryz.prog 41 #[.agg #[.slice ac t.cols.length cc,.int .i64 t.head,.int .i64 t.foot,.slice ar t.rows.length cr,.int .i64 t.gap],v] w fun e w'=>∃ u us,e=.returned u∧w'.ownsRow w.heap.size 27 1 u us.length us∧zB w' w.heap.size us (z0u t hs)∧Below w.heap.size w w':=by
 obtain ⟨i0,hi0,hz0,hz1,hz2⟩:=info_parts z78;obtain ⟨j0,hj0,hy0,hy1,hy2⟩:=info_parts zdO;obtain ⟨av,cv,rfl,_⟩:=hv.form;rw [hl] at hv ⊢;have HK0:=Hd (ze (Below.refl w.heap.size w) (.cells #[.slice ac t.cols.length cc,.int .i64 t.head,.int .i64 t.foot,.slice ar t.rows.length cr,.int .i64 t.gap] 33));have HX0:=Hd (zl w (.cells #[.slice ac t.cols.length cc,.int .i64 t.head,.int .i64 t.foot,.slice ar t.rows.length cr,.int .i64 t.gap] 33));have HT0:Hid (TA w z ac ar cc cr t):=⟨hc,hr⟩;have HV0:=Hd hv;have hs0:(w.alloc (.cells #[.slice ac t.cols.length cc,.int .i64 t.head,.int .i64 t.foot,.slice ar t.rows.length cr,.int .i64 t.gap] 33)).heap.size=w.heap.size+1:=(by simp);have hR8:=z16 htk;have HGk:=Hd (z77 hD);have KG:=Hd (fun W (h:TA W z ac ar cc cr t)=>z5t ac ar cc cr t hD W h.1 h.2);have HGr:Hid ((gOf t).rows=(t.rows.length:Int)):=Hd (by rw [z2Z htk])
 have HFc:Hid (∀ row,z3I (gOf t).cells row=z1V (gOf t).cells row):=Hd (fun row=>by
  refine zfi (R:=t.rows.length) (C:=z0n (max 1 (t.cols.length:Int)) (zF t)) (fun a ha=>?_) row;rw [z2Z htk] at ha;exact zbU (z3K htk hD) ha)
 have KP:=Hd (fun W (q:Int) (h:TA W z ac ar cc cr t)=>z7u ac ar cc cr t q W h.1 h.2);have HB:=Hd hb;have HL:=Hd hl;clear hc hr hv hl hb;go_enter Tryz.func41,Tryz.ntmps41;go_upto_region 2 with fail
 generalize w.alloc (.cells #[.slice ac t.cols.length cc,.int .i64 t.head,.int .i64 t.foot,.slice ar t.rows.length cr,.int .i64 t.gap] 33)=W0 at HK0 HX0 hs0 ⊢;obtain ⟨b0,b1,b2,b3,b4⟩:=z0l HX0.out;go_wp2_with fail
 refine (KG.out _ (HT0.out.kept HK0.out)).mono ?_;rintro e w1 ⟨vg,rfl,hO1,hb1⟩;obtain ⟨ag,cg,rfl⟩:=z5r hO1;rw [HGr.out];have HG1:=Hd (hO1.at HGk.out);have HX1:=Hd ((hb1.block w.heap.size (by omega)).trans HX0.out);have HK1:=Hd (zh HK0.out hb1);have hs1:w.heap.size < w1.heap.size:=(by have:=hb1.size;omega);clear hb1 hO1 b0 b1 b2 b3 b4 KG HX0 HK0;go_wp2_with fail
 refine (zaH t.rows.length (by omega) (gOf t).cols ag cg (gOf t).cells HFc.out w1 HG1.out).mono ?_;rintro e w2 ⟨vb,rfl,hI2,hb2⟩;obtain ⟨ab0,cb0,rfl⟩:=hI2.form;have hO2:=hI2.owns;have HX2:=Hd ((hb2.block w.heap.size hs1).trans HX1.out);have HK2:=Hd (zh HK1.out hb2);have hs2:w.heap.size < w2.heap.size:=(by have:=hb2.size;omega);have hs12:=hb2.size;have hbl:=z52 (gOf t).cells t.rows.length;have HL2:=Hd (z55 (gOf t).cells t.rows.length);have HL3:=Hd (fun (k:Nat)=>zfv (gs:=(gOf t).cells) (R:=t.rows.length) (k:=k));have HL4:=Hd (fun (k:Nat)=>z4p (gs:=(gOf t).cells) (R:=t.rows.length) (k:=k));have HPT:Hid (z0u t hs=z0D t hs (zQ (gOf t).cells t.rows.length) (zU (gOf t).cells t.rows.length).length):=Hd rfl;have HPL:Hid (∀ k,(z0D t hs (zQ (gOf t).cells t.rows.length) k).length≤1000 * k):=Hd (fun k=>z6E HB.out _ k);generalize zQ (gOf t).cells t.rows.length=L at HL2 HL3 HL4 HPT HPL;generalize zU (gOf t).cells t.rows.length=bs at hI2 hO2 hbl HL2 HL3 HPT;clear hb2 HX1 HK1 HG1 hI2 HFc;go_wp2_with (at_builtin;refine wpList_append_own _ rfl _ _ 34 rfl w1.heap.size 3 j0 (.int .i64 0) 1 8 Tryz.underlying34 hj0 hy0 hy1 hy2 rfl (by decide) _ _ _ rfl (hO2.alloc _) ⟨w2.heap.size,0,none⟩ 1 1 [.int .i64 (t.rows.length:Int)] rfl rfl ?d1 ?d2 ?d3 ?d4 ?d5 ?_)
 case d1=>exact z1e (zl w2 (.cells #[.int .i64 (t.rows.length:Int)] 3))
 case d2=>simp [Value.oneCell']
 case d3=>unfold maxLen;omega
 case d4=>omega
 case d5=>simp;omega
 intro v5 w5 hown5 hgrow5 _;have hK5:Below w.heap.size w w5:=(ze HK2.out _).grown hgrow5 (by simp;omega) (fun b hb=>by have:=(hO2.lt b hb).1;have:=HK2.out.size;omega);have hI5:zH w5 v5 (bs ++ [(t.rows.length:Int)]):=(zz.of_owns (B:=w1.heap.size) (l:=bs ++ [(t.rows.length:Int)]) (by simpa using hown5)).at;have hne5:some w.heap.size ≠ (Value.slice ab0 bs.length cb0).ownBlock:=fun e=>by have:=(hO2.lt _ e.symm).1;omega
 have hX5:=(hgrow5.block w.heap.size (by simp;omega) hne5).trans ((Below.heap_alloc _ _ _ hs2).trans HX2.out);have HP5:Hid (PH w z ac ar cc cr t hs (.slice av t.rows.length cv) v5 (bs ++ [(t.rows.length:Int)]) w5):=Hd ⟨hK5,hX5,HT0.out.kept hK5,HV0.out.kept hK5,hI5⟩;obtain ⟨g5,cap5,rfl⟩:=Joins.ownsRow_form hown5 (by omega)
 have hc5:bs.length+1≤cap5∧cap5≤9223372036854775807:=by
  obtain ⟨_,c,e,h1,h2,_⟩:=hI5;simp only [Value.slice.injEq] at e;obtain ⟨_,_,rfl⟩:=e;unfold maxLen at h2;rw [List.length_append,List.length_cons,List.length_nil] at h1;omega
 clear hK5 hI5 hne5 hX5 hown5 hgrow5 hO2 HK2 HX2 HT0 HV0 hs1;go_wp2_with fail
 go_loopw [5,23] (fun o i W=>∃ (k:Nat) (us:List Value) (vo:Value),k≤bs.length∧i=.int .i64 (k:Int)∧o=vo∧Hid (W.ownsRow w5.heap.size 27 1 vo us.length us)∧Hid (zB W w5.heap.size us (z0D t hs L k))∧Hid (Below w5.heap.size w5 W)) (fun _ i _=>bs.length - (intOf i).toNat)
 case atStart=>exact ⟨0,[],_,Nat.zero_le _,rfl,rfl,⟨rfl,.inl ⟨rfl,rfl⟩⟩,zB.nil _ _,Below.refl _ _⟩
 case round =>
  obtain ⟨k,us,vo,hk,rfl,rfl,HO,HP,HBk⟩:=hrel
  have hub:us.length≤1000 * k:=by
   have:=HP.out.1;have:=HPL.out k;omega
  have HUl:=Hd HP.out.1;have HPr:=Hd (HP5.out.kept HBk.out);obtain ⟨ao,co,rfl,_⟩:=z02 HO.out;by_cases hlt:k < bs.length
  case neg =>
   obtain rfl:k=bs.length:=by omega
   have hsz:=HP5.out.below.size;go_wp2;go_ret;exact ⟨_,us,rfl,z7E HO.out hsz,by rw [HPT.out];exact HP.out.base hsz,HPr.out.below⟩
  obtain ⟨s1,s2⟩:=HL4.out k (by rw [HL2.out];omega);have HA:=Hd (show L.getD k 0=L.getD k 0 from rfl);obtain ⟨a,ha⟩:∃ a,L.getD k 0=a:=⟨_,rfl⟩;obtain ⟨m,hm⟩:∃ m,L.getD (k+1) 0=a+m:=⟨L.getD (k+1) 0 - a,by omega⟩;have x1:=(HPr.out.bnd.get (i:=k) (by simp;omega));have x2:=(HPr.out.bnd.get (i:=k+1) (by simp;omega));rw [HL3.out k (by rw [HL2.out];omega),ha] at x1;rw [HL3.out (k+1) (by rw [HL2.out];omega),hm] at x2;rw [ha,hm] at s1;rw [hm] at s2;replace HA:=Hd ha;have HA2:=Hd hm;obtain ⟨gx,ox,cx,e',hz1,hz2,hz3,x1⟩:=x1;clear hz1 hz2 hz3;simp only [Value.slice.injEq,Option.some.injEq,Addr.mk.injEq,and_true] at e';obtain ⟨⟨rfl,rfl⟩,hz,rfl⟩:=e';clear hz;obtain ⟨gx,ox,cx,e',hz1,hz2,hz3,x2⟩:=x2;clear hz1 hz2 hz3;simp only [Value.slice.injEq,Option.some.injEq,Addr.mk.injEq,and_true] at e';obtain ⟨⟨rfl,rfl⟩,hz,rfl⟩:=e';clear hz;have hm1:1≤m:=(by omega);have hla:a+m≤hs.length:=(by rw [HL.out];exact s2);rw [Nat.zero_add] at x1 x2;obtain ⟨b0,b1,b2,b3,b4⟩:=z0l HPr.out.box;have KQ:=Hd (KP.out wr (a:Int) HPr.out.ta);have HFA:=Hd (fun (h:¬ z0m t (a:Int)=1)=>zcv (hs:=hs) (b:=a+m) h);have HFB:=Hd (fun (h:z0m t (a:Int)=1) h2=>zcw (hs:=hs) (b:=a+m) h h2);have HFC:=Hd (fun (h:z0m t (a:Int)=1) h2=>z9s (hs:=hs) (b:=a+m) h h2);have hsub:a+m - a=m:=(by omega);rw [hsub] at HFB HFC;clear ha hm s1 hsub;by_cases hp:z0m t (a:Int)=1
  case neg =>
   have HS:=Hd (HFA.out hp);have hp2:(z0m t (a:Int) != 1)=true:=bne_iff_ne.2 hp;clear HFA HFB HFC;go_wp2_with fail
   refine KQ.out.mono ?_;rintro e w2 ⟨rfl,hb2⟩;have HO2:=Hd (z5u HO.out hb2)
   have HP2:Hid (zB w2 w5.heap.size us (z0D t hs L (k+1))):=Hd (by
    rw [z0D,HA.out,HA2.out,HS.out,List.append_nil];exact HP.out.kept hb2)
   have HB2:=Hd (zh HBk.out hb2);clear hb2 b0 b1 b2 b3 b4 x1 x2;go_wp2;go_roundw
   case rel=>exact ⟨k+1,us,_,by omega,by go_num,rfl,HO2,HP2,HB2⟩
   case measure=>simp [intOf];omega
  replace HFB:=Hd (HFB.out hp);replace HFC:=Hd (HFC.out hp);rw [hp] at KQ;clear hp HFA;go_wp2_with fail
  refine KQ.out.mono ?_;rintro e w2 ⟨rfl,hb2⟩;replace HO:=Hd (z5u HO.out hb2);replace HP:=Hd (HP.out.kept hb2);replace HBk:=Hd (zh HBk.out hb2);have hK2:=HPr.out.kept hb2;have hsz2:=HBk.out.size;clear hb2 b0 b1 b2 b3 b4 KQ HPr;have hx:=(hK2.bnd.get (i:=k+1) (by simp;omega));rw [HL3.out (k+1) (by rw [HL2.out];omega),HA2.out,Int.natCast_add] at hx;obtain ⟨gx,ox,cx,e',hz1,hz2,hz3,x3⟩:=hx;clear hz1 hz2 hz3;simp only [Value.slice.injEq,Option.some.injEq,Addr.mk.injEq,and_true] at e';obtain ⟨⟨rfl,rfl⟩,hz,rfl⟩:=e';clear hz x1 x2;rw [Nat.zero_add] at x3;have KW:=Hd (z6p hs a m hla (by have:=HL.out;omega) _ w2 hK2.hts);have HPk:=Hd hK2;have HLn:=Hd (z38 hs m a)
  have HEd:Hid ((z0b hs a m).getD 0 dP=⟨(a:Int),0,hs.getD a 0⟩):=Hd (by
   obtain ⟨q,rfl⟩:∃ q,m=q+1:=⟨m - 1,by omega⟩
   rfl)
  have hya:0≤hs.getD a 0∧hs.getD a 0≤1000:=HB.out _ (by
   have h:a < hs.length:=(by omega);simp [List.getD,h])
  clear hK2;go_wp2_with fail
  refine KW.out.mono ?_;rintro e w3 ⟨ub,rfl,hU,hb3⟩;obtain ⟨ab,cb,rfl⟩:=hU.form;rw [HLn.out] at hU ⊢;have HO3:=Hd (z5u HO.out hb3);have HP3:=Hd (HP.out.kept hb3);have HB3:=Hd (zh HBk.out hb3);have hsz3:=HB3.out.size;have hK3:=HPk.out.kept hb3;have HU:=Hd (hU.base hsz2);obtain ⟨e0,e1,e2,e3,e4⟩:=z0l hK3.box;obtain ⟨br,offr,capr,er,r1,r2,r3,ur,r4,r5,r6⟩:=hK3.ta.2.get (i:=a) (by have:=HL.out;omega);simp only [Value.slice.injEq] at er;obtain ⟨er,hz,rfl⟩:=er;clear hz r3 r4 r6;obtain ⟨bh,oh,ch,eh,q1,q2,q3,q4⟩:=hK3.hts.get (i:=a) (by omega);simp only [Value.slice.injEq] at eh;obtain ⟨eh,hz,rfl⟩:=eh;clear hz q3;obtain ⟨bb,ob,cbb,eb,p1,p2,p3,p4,p5,p6⟩:=At.get hU.at (i:=0) (by rw [HLn.out];omega);simp only [Value.slice.injEq] at eb;obtain ⟨eb,hz,rfl⟩:=eb;rw [HEd.out] at p4 p5 p6;rw [HLn.out] at p1;simp only [Nat.zero_mul,Nat.add_zero] at p4 p5 p6;subst er eh eb;clear hz p3 hb3 hU hK3 HO HP HBk HPk KW x3 HLn HEd HB;unfold maxLen at r2 q2 p2;have hln:=HL.out;generalize hs.getD a 0=y at q4 p6 HFB HFC hya;generalize (t.rows.getD a dR).whole=wh at r5 HFB HFC;rw [hln] at q1;clear hln;by_cases hm2:m=1
  ·subst hm2
   cases wh with
   | false =>
    by_cases h0:0 < y
    ·obtain ⟨n,rfl⟩:∃ n:Nat,y=n:=⟨y.toNat,by omega⟩;have HE:=Hd (HFB.out ⟨⟨rfl,rfl⟩,h0⟩);rw [Int.toNat_natCast] at HE;clear HFB HFC;go_wp2_with fail
     refine (zbW (a:Int) n (by omega) w3).mono ?_;rintro e w6 ⟨v6,us6,rfl,hO6,hP6,hb6⟩;have HU6:=Hd (hP6.1.trans (zd4 (a:Int) 0 n));obtain ⟨g6,cap6,rfl⟩:=Joins.ownsRow_form hO6 (by rw [HU6.out];omega);rw [HU6.out] at hO6 ⊢;have hO3':=z5u HO3.out hb6;have HP6':=Hd (HP3.out.kept hb6);have HB6:=Hd (zh HB3.out hb6);have HO6:=Hd hO6;have HP6:=Hd hP6;have hs6:=hb6.size;clear hb6 hP6 HO3 HP3 HB3;go_wp2_with (at_builtin;refine wpList_append_own _ rfl _ _ 23 rfl w5.heap.size 27 i0 _ 1 24 Tryz.underlying23 hi0 hz0 hz1 hz2 rfl (by decide) _ _ _ rfl hO3' ⟨g6,0,none⟩ n cap6 us6 rfl (by rw [HU6.out];omega) ?c1 ?c2 ?c3 ?c4 ?c5 ?_)
     case c1=>exact zfD HO6.out
     case c2=>exact HP6.out.cell1
     case c3=>unfold maxLen;omega
     case c4=>omega
     case c5=>omega
     intro v' w4 hown' hgrow' _;have HB4:=Hd (HB6.out.grown hgrow' (by omega) (fun b hb=>(hO3'.lt b hb).1))
     have HP4:Hid (zB w4 w5.heap.size (us ++ us6) (z0D t hs L (k+1))):=Hd (by
      rw [z0D,HA.out,HA2.out,HE.out];exact (HP6'.out.grown hO3' hgrow').app ((HP6.out.base (by omega)).grown hO3' hgrow'))
     have HO4:Hid (w4.ownsRow w5.heap.size 27 1 v' (us ++ us6).length (us ++ us6)):=Hd (by rw [List.length_append,HU6.out];exact hown');obtain ⟨g',cap',rfl⟩:=Joins.ownsRow_form hown' (by omega);clear hown' hgrow' hO3' HB6 HP6 HP6' HO6 HU HE e0 e1 e2 e3 e4;go_wp2;go_roundw
     case rel=>exact ⟨k+1,_,_,by omega,by go_num,rfl,HO4,HP4,HB4⟩
     case measure=>simp [intOf];omega
    ·have HE:=Hd (HFC.out (fun h=>h0 h.2));clear HFB HFC;go_wp2_with (at_builtin;refine wpList_append_own _ rfl _ _ 23 rfl w5.heap.size 27 i0 _ 1 24 Tryz.underlying23 hi0 hz0 hz1 hz2 rfl (by decide) _ _ _ rfl (HO3.out.alloc _) ⟨w3.heap.size,0,none⟩ 1 1 [.slice (some ⟨bb,ob,none⟩) 1 cb] rfl rfl ?c1 ?c2 ?c3 ?c4 ?c5 ?_)
     case c1=>exact z1e (zl w3 (.cells #[.slice (some ⟨bb,ob,none⟩) 1 cb] 27))
     case c2=>simp [Value.oneCell']
     case c3=>unfold maxLen;omega
     case c4=>omega
     case c5=>simp;omega
     intro v' w4 hown' hgrow' _;have KA:=ze (Below.refl w3.heap.size w3) (.cells #[.slice (some ⟨bb,ob,none⟩) 1 cb] 27);have hOA:=HO3.out.alloc (.cells #[.slice (some ⟨bb,ob,none⟩) 1 cb] 27);have HB4:=Hd ((ze HB3.out (.cells #[.slice (some ⟨bb,ob,none⟩) 1 cb] 27)).grown hgrow' (by simp;omega) (fun b hb=>(hOA.lt b hb).1))
     have HP4:Hid (zB w4 w5.heap.size (us ++ [.slice (some ⟨bb,ob,none⟩) 1 cb]) (z0D t hs L (k+1))):=Hd (by
      rw [z0D,HA.out,HA2.out,HE.out];exact ((HP3.out.kept KA).grown hOA hgrow').app (zB.one ((HU.out.kept KA).grown hOA hgrow')))
     have HO4:Hid (w4.ownsRow w5.heap.size 27 1 v' (us ++ [(Value.slice (some ⟨bb,ob,none⟩) 1 cb)]).length (us ++ [(Value.slice (some ⟨bb,ob,none⟩) 1 cb)])):=Hd (by rw [List.length_append];exact hown');obtain ⟨g',cap',rfl⟩:=Joins.ownsRow_form hown' (by omega);clear hown' hgrow' HO3 HB3 HP3 hOA KA HU HE e0 e1 e2 e3 e4;go_wp2;go_roundw
     case rel=>exact ⟨k+1,_,_,by omega,by go_num,rfl,HO4,HP4,HB4⟩
     case measure=>simp [intOf];omega
   | true =>
    have HE:=Hd (HFC.out (fun h=>by cases h.1.2));clear HFB HFC;go_wp2_with (at_builtin;refine wpList_append_own _ rfl _ _ 23 rfl w5.heap.size 27 i0 _ 1 24 Tryz.underlying23 hi0 hz0 hz1 hz2 rfl (by decide) _ _ _ rfl (HO3.out.alloc _) ⟨w3.heap.size,0,none⟩ 1 1 [.slice (some ⟨bb,ob,none⟩) 1 cb] rfl rfl ?c1 ?c2 ?c3 ?c4 ?c5 ?_)
    case c1=>exact z1e (zl w3 (.cells #[.slice (some ⟨bb,ob,none⟩) 1 cb] 27))
    case c2=>simp [Value.oneCell']
    case c3=>unfold maxLen;omega
    case c4=>omega
    case c5=>simp;omega
    intro v' w4 hown' hgrow' _;have KA:=ze (Below.refl w3.heap.size w3) (.cells #[.slice (some ⟨bb,ob,none⟩) 1 cb] 27);have hOA:=HO3.out.alloc (.cells #[.slice (some ⟨bb,ob,none⟩) 1 cb] 27);have HB4:=Hd ((ze HB3.out (.cells #[.slice (some ⟨bb,ob,none⟩) 1 cb] 27)).grown hgrow' (by simp;omega) (fun b hb=>(hOA.lt b hb).1))
    have HP4:Hid (zB w4 w5.heap.size (us ++ [.slice (some ⟨bb,ob,none⟩) 1 cb]) (z0D t hs L (k+1))):=Hd (by
     rw [z0D,HA.out,HA2.out,HE.out];exact ((HP3.out.kept KA).grown hOA hgrow').app (zB.one ((HU.out.kept KA).grown hOA hgrow')))
    have HO4:Hid (w4.ownsRow w5.heap.size 27 1 v' (us ++ [(Value.slice (some ⟨bb,ob,none⟩) 1 cb)]).length (us ++ [(Value.slice (some ⟨bb,ob,none⟩) 1 cb)])):=Hd (by rw [List.length_append];exact hown');obtain ⟨g',cap',rfl⟩:=Joins.ownsRow_form hown' (by omega);clear hown' hgrow' HO3 HB3 HP3 hOA KA HU HE e0 e1 e2 e3 e4;go_wp2;go_roundw
    case rel=>exact ⟨k+1,_,_,by omega,by go_num,rfl,HO4,HP4,HB4⟩
    case measure=>simp [intOf];omega
  ·have HE:=Hd (HFC.out (fun h=>hm2 h.1.1));have hme:((m:Int) == 1)=false:=beq_eq_false_iff_ne.2 (by omega);clear HFB HFC;go_wp2_with (at_builtin;refine wpList_append_own _ rfl _ _ 23 rfl w5.heap.size 27 i0 _ 1 24 Tryz.underlying23 hi0 hz0 hz1 hz2 rfl (by decide) _ _ _ rfl (HO3.out.alloc _) ⟨w3.heap.size,0,none⟩ 1 1 [.slice (some ⟨bb,ob,none⟩) m cb] rfl rfl ?c1 ?c2 ?c3 ?c4 ?c5 ?_)
   case c1=>exact z1e (zl w3 (.cells #[.slice (some ⟨bb,ob,none⟩) m cb] 27))
   case c2=>simp [Value.oneCell']
   case c3=>unfold maxLen;omega
   case c4=>omega
   case c5=>simp;omega
   intro v' w4 hown' hgrow' _;have KA:=ze (Below.refl w3.heap.size w3) (.cells #[.slice (some ⟨bb,ob,none⟩) m cb] 27);have hOA:=HO3.out.alloc (.cells #[.slice (some ⟨bb,ob,none⟩) m cb] 27);have HB4:=Hd ((ze HB3.out (.cells #[.slice (some ⟨bb,ob,none⟩) m cb] 27)).grown hgrow' (by simp;omega) (fun b hb=>(hOA.lt b hb).1))
   have HP4:Hid (zB w4 w5.heap.size (us ++ [.slice (some ⟨bb,ob,none⟩) m cb]) (z0D t hs L (k+1))):=Hd (by
    rw [z0D,HA.out,HA2.out,HE.out];exact ((HP3.out.kept KA).grown hOA hgrow').app (zB.one ((HU.out.kept KA).grown hOA hgrow')))
   have HO4:Hid (w4.ownsRow w5.heap.size 27 1 v' (us ++ [(Value.slice (some ⟨bb,ob,none⟩) m cb)]).length (us ++ [(Value.slice (some ⟨bb,ob,none⟩) m cb)])):=Hd (by rw [List.length_append];exact hown');obtain ⟨g',cap',rfl⟩:=Joins.ownsRow_form hown' (by omega);clear hown' hgrow' HO3 HB3 HP3 hOA KA HU HE e0 e1 e2 e3 e4;go_wp2;go_roundw
   case rel=>exact ⟨k+1,_,_,by omega,by go_num,rfl,HO4,HP4,HB4⟩
   case measure=>simp [intOf];omega
def z27 (p:GC→Int) (gap s:Int) (gs:List GC) (l:List Int):Nat→List Int
 | 0=>l
 | k+1=>if (gs.getD k dG).cols=s then z3N (z27 p gap s gs l k) (gs.getD k dG).col.toNat (gs.getD k dG).cols.toNat gap (p (gs.getD k dG)) else z27 p gap s gs l k
def z1u (p:GC→Int) (gap:Int) (gs:List GC) (l:List Int):Nat→List Int
 | 0=>l
 | s+1=>z27 p gap ((s+1:Nat):Int) gs (z1u p gap gs l s) gs.length
theorem z3O (p:GC→Int) (gap s:Int) (gs:List GC) (l:List Int):∀ k,(z27 p gap s gs l k).length=l.length
 | 0=>rfl
 | k+1=>by rw [z27];split;rw [z9P];exact z3O p gap s gs l k;exact z3O p gap s gs l k
theorem z3P (p:GC→Int) (gap:Int) (gs:List GC) (l:List Int):∀ s,(z1u p gap gs l s).length=l.length
 | 0=>rfl
 | s+1=>by rw [z1u,z3O,z3P p gap gs l s]
def zL (t:T) (x:GC):ByteArray:=((t.rows.getD x.row.toNat dR).cells.getD x.ins.toNat dC).s
structure Cel (t:T) (C:Nat) (x:GC):Prop where
 ex:∃ rn jn cn mn:Nat,x.row=rn∧x.ins=jn∧x.col=cn∧x.cols=mn∧rn < t.rows.length∧jn < (t.rows.getD rn dR).cells.length∧cn+mn≤C∧1≤mn∧mn≤4
 gap:0≤t.gap∧t.gap≤3
 rows:0≤x.rows∧x.rows≤8
theorem z3Q {t:T} (hD:zY t):(gOf t).cells.length≤40∧∃ C:Nat,(gOf t).cols=C∧C≤88∧∀ k,k < (gOf t).cells.length→Cel t C ((gOf t).cells.getD k dG):=by
 cases h:zr t with
 | false=>rw [zaS h];exact ⟨by simp,0,rfl,by omega,fun k hk=>absurd hk (Nat.not_lt_zero _)⟩
 | true =>
  have hl:=z3K h hD;have h8:=hl.rows;have h40:=zaK hl t.rows.length
  have hg:0≤t.gap∧t.gap≤3:=by
   simp only [zr,inB,Bool.and_eq_true,decide_eq_true_eq] at h;exact h.2.2.1
  have hc:t.cols.length≤8:=by
   simp only [zr,z1L,Bool.and_eq_true,decide_eq_true_eq] at h;omega
  have hcb:=zbT hl hc;rw [z2Z h];refine ⟨by show (z0c t t.rows.length).length≤40;omega,(z0n (max 1 (t.cols.length:Int)) (zF t)).toNat,by show z0n (max 1 (t.cols.length:Int)) (zF t)=_;omega,by omega,fun k hk=>⟨?_,hg,?_⟩⟩
  ·have hk':k < (zF t).length:=hk;obtain ⟨r,j,hr,hj,e⟩:=(z8Z hl hk').ex;have hst:=z2Y hl (z2w (d:=dG) hk');have hm:=z66 (m:=max 1 (t.cols.length:Int)) (z2w (d:=dG) hk');have e1:((zF t).getD k dG).row=r:=(by rw [e];rfl);have e2:((zF t).getD k dG).ins=j:=(by rw [e];rfl);unfold z1d at hst;show ∃ rn jn cn mn:Nat,((zF t).getD k dG).row=rn∧((zF t).getD k dG).ins=jn∧((zF t).getD k dG).col=cn∧((zF t).getD k dG).cols=mn∧_;refine ⟨r,j,((zF t).getD k dG).col.toNat,((zF t).getD k dG).cols.toNat,e1,e2,by omega,by omega,hr,hj,by omega,by omega,by omega⟩
  ·have hk':k < (zF t).length:=hk;have hst:=z2Y hl (z2w (d:=dG) hk');unfold z1d at hst;show 0≤((zF t).getD k dG).rows∧((zF t).getD k dG).rows≤8;omega
theorem z95 {t:T} {C:Nat} {gs:List GC} {p:GC→Int} {l:List Int} {B s:Int} (hC:∀ k,k < gs.length→Cel t C (gs.getD k dG)) (hl:l.length=C) (hp:∀ x,p x≤30) (hb:UpB l B) (hB:B+30 * gs.length≤50000):∀ k,k≤gs.length→UpB (z27 p t.gap s gs l k) (B+30 * (k:Int))
 | 0,_=>by intro i hi;have:=hb i hi;show 0≤l.getD i 0∧l.getD i 0≤_;omega
 | k+1,hk=>by
  have ih:=z95 (s:=s) hC hl hp hb hB k (by omega);have hx:=hC k (by omega);rw [z27]
  split
  ·obtain ⟨rn,jn,cn,mn,e1,e2,e3,e4,h1,h2,h3,h4,h5⟩:=hx.ex;rw [e3,e4,Int.toNat_natCast,Int.toNat_natCast];have:=zer ih (by omega) (by rw [z3O,hl];exact h3) ⟨h4,h5⟩ hx.gap (hp (gs.getD k dG)) (c:=cn) (m:=mn);intro i hi;have:=this i hi;omega
  ·intro i hi;have:=ih i hi;omega
theorem z96 {t:T} {C:Nat} {gs:List GC} {p:GC→Int} {l:List Int} (hC:∀ k,k < gs.length→Cel t C (gs.getD k dG)) (h40:gs.length≤40) (hl:l.length=C) (hp:∀ x,p x≤30) (hb:UpB l 0):∀ s,s≤4→UpB (z1u p t.gap gs l s) (1200 * (s:Int))
 | 0,_=>by intro i hi;have:=hb i hi;show 0≤l.getD i 0∧l.getD i 0≤_;omega
 | s+1,hs=>by
  have ih:=z96 hC h40 hl hp hb s (by omega);have:=z95 (s:=((s+1:Nat):Int)) hC (by rw [z3P];exact hl) hp ih (by omega) gs.length (Nat.le_refl _);intro i hi;have:=this i hi;rw [z1u];omega
theorem zdb {a:Int} (h:-9223372036854775808≤a∧a≤9223372036854775807):IntKind.i64.wrap a=a:=by rw [IntKind.wrap_i64];omega
theorem zbZ {cn m C:Nat} (h:cn+(m+1)≤C) (hC:C≤88):(cn:Int)≤(cn:Int)+((m:Int)+1)∧(cn:Int)+((m:Int)+1)≤(C:Int)∧(0:Int)≤(cn:Int)+((m:Int)+1)∧((cn:Int)+((m:Int)+1)).toNat=cn+(m+1)∧cn+(m+1) - cn=m+1∧¬ C=cn∧wrap64 ((cn:Int)+((m:Int)+1))=(cn:Int)+((m:Int)+1)∧IntKind.i64.wrap ((cn:Int)+((m:Int)+1))=(cn:Int)+((m:Int)+1):=by
 have e:-9223372036854775808≤(cn:Int)+((m:Int)+1)∧(cn:Int)+((m:Int)+1)≤9223372036854775807:=(by omega);exact ⟨by omega,by omega,by omega,by omega,by omega,by omega,z3u e,zdb e⟩
def z0t (n:Nat):List Int:=List.replicate n 0
theorem zcD (n:Nat):UpB (z0t n) 0:=by
 intro i hi;simp [z0t] at hi;simp [z0t,List.getD,hi]
def Ws (w:World) (z gb:Nat) (ac ar:Option Addr) (cc cr:Nat) (t:T) (ag:Option Addr) (cg:Nat) (W:World):Prop :=
 Below w.heap.size w W∧TA W z ac ar cc cr t∧W.heap[w.heap.size]?=some (.cells #[.slice ac t.cols.length cc,.int .i64 t.head,.int .i64 t.foot,.slice ar t.rows.length cr,.int .i64 t.gap] 33)∧z2B W w.heap.size (.slice ag (gOf t).cells.length cg) (gOf t).cells∧W.heap[gb]?=some (.cells #[.int .i64 (gOf t).rows,.int .i64 (gOf t).cols,.slice ag (gOf t).cells.length cg] 56)
theorem Ws.kept {w W W':World} {z gb:Nat} {ac ar ag:Option Addr} {cc cr cg:Nat} {t:T} (h:Ws w z gb ac ar cc cr t ag cg W) (hb:Below W.heap.size W W'):Ws w z gb ac ar cc cr t ag cg W' :=
 ⟨h.1.trans (hb.mono h.1.size),h.2.1.kept hb,(hb.block _ (bL h.2.2.1)).trans h.2.2.1,h.2.2.2.1.kept hb,(hb.block gb (bL h.2.2.2.2)).trans h.2.2.2.2⟩
theorem Ws.at {w W:World} {z gb:Nat} {ac ar ag:Option Addr} {cc cr cg:Nat} {t:T} (h:Ws w z gb ac ar cc cr t ag cg W):W.cell? ⟨w.heap.size,3,none⟩=some (.slice ar t.rows.length cr)∧W.cell? ⟨w.heap.size,4,none⟩=some (.int .i64 t.gap)∧W.cell? ⟨gb,1,none⟩=some (.int .i64 (gOf t).cols)∧W.cell? ⟨gb,2,none⟩=some (.slice ag (gOf t).cells.length cg) :=
 ⟨zf h.2.2.1,zf h.2.2.1,zf h.2.2.2.2,zf h.2.2.2.2⟩
def zdc (x:GC) (l:List ByteArray):z0o:=(x.row.toNat,x.rows.toNat,(l.length:Int))
def rcs (gs:List GC) (ls:List (List ByteArray)):List z0o:=List.zipWith zdc gs ls
theorem zcE {gs:List GC} {ls:List (List ByteArray)} (h:ls.length=gs.length):(rcs gs ls).length=gs.length:=by rw [rcs,List.length_zipWith,h,Nat.min_self]
theorem z97 {gs:List GC} {ls:List (List ByteArray)} (h:ls.length=gs.length) {k:Nat} (hk:k < gs.length):(rcs gs ls)[k]?=some (zdc (gs.getD k dG) (ls.getD k [])):=by
 have hk2:k < ls.length:=(by omega);simp [rcs,List.getElem?_zipWith,List.getD,hk,hk2]
theorem zh1 {gs:List GC} {ls:List (List ByteArray)} (h:ls.length=gs.length) {p:z0o→Prop} (hp:∀ k,k < gs.length→p (zdc (gs.getD k dG) (ls.getD k []))):∀ c ∈ rcs gs ls,p c:=by
 intro c hc;obtain ⟨k,hk,e⟩:=List.mem_iff_getElem.mp hc;have hk2:k < gs.length:=(by rw [zcE h] at hk;exact hk);have:=z97 h hk2;rw [List.getElem?_eq_getElem hk,e] at this;rw [Option.some.inj this];exact hp k hk2
def z2L (cs:List z0o) (r k:Nat):Int:=(cs.take k).foldl (z14 (z0a cs r)) 0
def hsL (cs:List z0o) (R r k:Nat):List Int:=z0a cs r ++ (z2L cs r k :: z0t (R - (r+1)))
theorem zcF (cs:List z0o) {R r:Nat} (k:Nat) (h:r < R):(hsL cs R r k).length=R:=by
 simp [hsL,z0R,z0t];omega
theorem zfU (cs:List z0o) {R r:Nat} (h:r < R):z0a cs r ++ z0t (R - r)=hsL cs R r 0:=by
 rw [hsL,show R - r=(R - (r+1))+1 by omega,z0t,List.replicate_succ];rfl
theorem zcG (cs:List z0o) (R r:Nat):hsL cs R r cs.length=z0a cs (r+1) ++ z0t (R - (r+1)):=by
 rw [hsL,z2L,List.take_length,z0a,List.append_assoc];rfl
theorem zh2 (cs:List z0o) (R r k:Nat):(hsL cs R r k).getD r 0=z2L cs r k:=by
 rw [hsL,List.getD_eq_getElem?_getD,List.getElem?_append_right (by rw [z0R];exact Nat.le_refl _),z0R,Nat.sub_self];rfl
theorem zh3 (cs:List z0o) (R r k:Nat) (y:Int):(hsL cs R r k).set r y=z0a cs r ++ (y :: z0t (R - (r+1))):=by
 rw [hsL,List.set_append_right _ _ (by rw [z0R];exact Nat.le_refl _),z0R,Nat.sub_self];rfl
theorem zbf {cs:List z0o} {r k:Nat} {c:z0o} (h:cs[k]?=some c):z2L cs r (k+1)=z14 (z0a cs r) (z2L cs r k) c:=by
 rw [z2L,List.take_add_one,h,List.foldl_append];rfl
theorem zfV {cs:List z0o} {R r k:Nat} {c:z0o} (h:cs[k]?=some c) (he:c.1+c.2.1 ≠ r+1):hsL cs R r (k+1)=hsL cs R r k:=by
 rw [hsL,zbf h,z14,if_neg (by rw [z0R];exact he),hsL]
theorem zfW {cs:List z0o} {R r k:Nat} {c:z0o} (h:cs[k]?=some c) (he:c.1+c.2.1=r+1):hsL cs R r (k+1)=(hsL cs R r k).set r (max (z2L cs r k) (c.2.2 - ((z0a cs r).sum - zv (z0a cs r) c.1))):=by
 rw [zh3,hsL,zbf h,z14,if_pos (by rw [z0R];exact he)]
theorem z9Q {cs:List z0o} {M:Int} (hM:0≤M) (hc:∀ c ∈ cs,c.2.2≤M) (r k:Nat):0≤z2L cs r k∧z2L cs r k≤M:=by
 refine ⟨z92 _ _ 0,zb6 _ _ 0 (fun c h2=>?_) hM⟩;have h3:=z93 (z4U cs r) c.1;have h4:=hc c (List.mem_of_mem_take h2);omega
theorem zcH:∀ {l:List Int},(∀ x ∈ l,0≤x∧x≤1000)→l.sum≤1000 * (l.length:Int)
 | [],_=>by simp
 | y :: l,h=>by
  have h1:=h y (List.mem_cons_self ..);have h2:=zcH (l:=l) (fun x hx=>h x (List.mem_cons_of_mem _ hx));simp only [List.sum_cons,List.length_cons];omega
def z5M (st:List ByteArray × ByteArray):Prop:=st.2.size=0→st.1=[]
theorem z6V (q:Int) (st:List ByteArray × ByteArray) (x:W30):z5M (zR q st x.1):=by
 have hx:=x.2.1;intro h0;unfold zR at h0 ⊢;by_cases h1:0 < st.2.size
 ·by_cases h2:q < (st.2.size:Int)+1+x.1.size
  ·rw [if_pos h1,if_pos h2] at h0;dsimp only at h0;omega
  ·rw [if_pos h1,if_neg h2] at h0;dsimp only at h0;rw [ByteArray.size_append] at h0;omega
 ·rw [if_neg h1] at h0;dsimp only at h0;omega
theorem zg1 (q:Int) (ws:List W30):z5M (z17 q ws):=by
 suffices h:∀ (l:List W30) (st:List ByteArray × ByteArray),z5M st→z5M (l.foldl (fun st x=>zR q st x.1) st) from h ws _ (fun _=>rfl)
 intro l
 induction l with
 | nil=>intro st h;exact h
 | cons x r ih=>intro st _;exact ih _ (z6V q st x)
def z8w (l:List ByteArray):ByteArray:=l.getD (l.length - 1) eS
theorem zg2 {st:List ByteArray × ByteArray} (h:(z05 st).length ≠ 0) (hok:z5M st):0 < st.2.size∧z05 st=st.1 ++ [st.2]∧z8w (z05 st)=st.2:=by
 obtain ⟨lines,line⟩:=st
 have h0:0 < line.size:=by
  rcases Nat.eq_zero_or_pos line.size with h0 | h0
  ·have hl:lines=[]:=hok h0;subst hl;simp [z05,h0] at h
  ·exact h0
 have e:z05 (lines,line)=lines ++ [line]:=(by simp [z05,h0]);refine ⟨h0,e,?_⟩;rw [e];simp [z8w,List.getD]
theorem zez (q:Int) (ws:List W30):(z05 (z17 q ws)).length≤ws.length+1∧(z8w (z05 (z17 q ws))).size≤31 * ws.length:=by
 obtain ⟨h1,h2⟩:=z6e q ws;constructor
 ·unfold z05
  split
  ·simp;omega
  ·omega
 ·rcases Nat.eq_zero_or_pos (z05 (z17 q ws)).length with h | h
  ·have:z05 (z17 q ws)=[]:=List.eq_nil_of_length_eq_zero h;rw [this];simp [z8w,eS]
  ·rw [(zg2 (by omega) (zg1 q ws)).2.2];exact h2
def zia:List ByteArray→ByteArray
 | []=>⟨#[]⟩
 | [x]=>x
 | x :: y :: r=>x ++ ⟨#[32]⟩ ++ zia (y :: r)
def z98 (a b:List ByteArray × ByteArray):Prop:=(z05 a).length < (z05 b).length∨(z05 a).length=(z05 b).length∧a.2.size≤b.2.size
theorem z99 {q:Int} {st:List ByteArray × ByteArray} (h:¬ 0 < st.2.size) (x:W30):(z05 (zR q st x.1)).length=(z05 st).length+1∧(zR q st x.1).2.size=x.1.size:=by
 have hx:=x.2.1;have e:zR q st x.1=(st.1,x.1):=(by unfold zR;rw [if_neg h]);rw [e];simp [z05,h,hx]
theorem z4v {q:Int} {st:List ByteArray × ByteArray} (h:0 < st.2.size) (x:W30) (hq:q < (st.2.size:Int)+1+x.1.size):(z05 (zR q st x.1)).length=(z05 st).length+1∧(zR q st x.1).2.size=x.1.size:=by
 have hx:=x.2.1;have e:zR q st x.1=(st.1 ++ [st.2],x.1):=(by unfold zR;rw [if_pos h,if_pos hq]);rw [e];simp [z05,h,hx]
theorem z5i {q:Int} {st:List ByteArray × ByteArray} (h:0 < st.2.size) (x:W30) (hq:¬ q < (st.2.size:Int)+1+x.1.size):(z05 (zR q st x.1)).length=(z05 st).length∧(zR q st x.1).2.size=st.2.size+1+x.1.size:=by
 have e:zR q st x.1=(st.1,st.2 ++ ⟨#[32]⟩ ++ x.1):=(by unfold zR;rw [if_pos h,if_neg hq]);have hz:(st.2 ++ ⟨#[32]⟩ ++ x.1).size=st.2.size+1+x.1.size:=(by rw [ByteArray.size_append,ByteArray.size_append];rfl);rw [e];refine ⟨?_,hz⟩;have hp:0 < (st.2 ++ ⟨#[32]⟩ ++ x.1).size:=(by omega);simp only [z05,hp,h,if_true,List.length_append,List.length_cons,List.length_nil]
theorem zbi {st:List ByteArray × ByteArray} (hok:z5M st):(¬ 0 < st.2.size→(z05 st).length=0)∧(0 < st.2.size→0 < (z05 st).length):=by
 refine ⟨fun h=>?_,fun h=>?_⟩
 ·have:st.1=[]:=hok (by omega);simp [z05,h,this]
 ·simp [z05,h]
theorem zde {p q:Int} (hpq:p≤q) {a b:List ByteArray × ByteArray} (ha:z5M a) (hb:z5M b) (h:z98 a b) (x:W30):z98 (zR q a x.1) (zR p b x.1):=by
 have hx:=x.2.1;obtain ⟨za,za'⟩:=zbi ha;obtain ⟨zb,zb'⟩:=zbi hb;unfold z98 at h ⊢;by_cases h1:0 < a.2.size
 ·have c1:=za' h1
  have h2:0 < b.2.size:=by
   by_cases h2:0 < b.2.size
   ·exact h2
   ·have:=zb h2;omega
  by_cases qa:q < (a.2.size:Int)+1+x.1.size
  ·obtain ⟨e1,e2⟩:=z4v h1 x qa;by_cases qb:p < (b.2.size:Int)+1+x.1.size
   ·obtain ⟨e3,e4⟩:=z4v h2 x qb;omega
   ·obtain ⟨e3,e4⟩:=z5i h2 x qb;omega
  ·obtain ⟨e1,e2⟩:=z5i h1 x qa;by_cases qb:p < (b.2.size:Int)+1+x.1.size
   ·obtain ⟨e3,e4⟩:=z4v h2 x qb;omega
   ·obtain ⟨e3,e4⟩:=z5i h2 x qb;omega
 ·have c1:=za h1;obtain ⟨e1,e2⟩:=z99 (q:=q) h1 x;by_cases h2:0 < b.2.size
  ·have:=zb' h2;by_cases qb:p < (b.2.size:Int)+1+x.1.size
   ·obtain ⟨e3,e4⟩:=z4v h2 x qb;omega
   ·obtain ⟨e3,e4⟩:=z5i h2 x qb;omega
  ·obtain ⟨e3,e4⟩:=z99 (q:=p) h2 x;have:=zb h2;omega
theorem zib {p q:Int} (hpq:p≤q) (ws:List W30):(z05 (z17 q ws)).length≤(z05 (z17 p ws)).length:=by
 suffices h:∀ (l:List W30) (a b:List ByteArray × ByteArray),z5M a→z5M b→z98 a b→z98 (l.foldl (fun st x=>zR q st x.1) a) (l.foldl (fun st x=>zR p st x.1) b) by
  have:=h ws ([],⟨#[]⟩) ([],⟨#[]⟩) (fun _=>rfl) (fun _=>rfl) (Or.inr ⟨rfl,Nat.le_refl _⟩);unfold z98 at this;have e1:z17 q ws=ws.foldl (fun st x=>zR q st x.1) ([],⟨#[]⟩):=rfl;have e2:z17 p ws=ws.foldl (fun st x=>zR p st x.1) ([],⟨#[]⟩):=rfl;rw [e1,e2];omega
 intro l
 induction l with
 | nil=>intro a b _ _ h;exact h
 | cons x r ih=>intro a b ha hb h;exact ih _ _ (z6V q a x) (z6V p b x) (zde hpq ha hb h x)
theorem zh6 {q:Int} {n:Nat} (hq:q≤(n:Int)) (ws:List W30) (hw:∀ x ∈ ws,x.1.size≤n):∀ y ∈ z05 (z17 q ws),y.size≤n:=by
 suffices h:∀ (l:List W30) (st:List ByteArray × ByteArray),(∀ x ∈ l,x.1.size≤n)→(∀ y ∈ st.1,y.size≤n)→st.2.size≤n→(∀ y ∈ (l.foldl (fun st x=>zR q st x.1) st).1,y.size≤n)∧(l.foldl (fun st x=>zR q st x.1) st).2.size≤n by
  obtain ⟨h1,h2⟩:=h ws ([],⟨#[]⟩) hw (fun y hy=>by cases hy) (Nat.zero_le _);intro y hy;unfold z05 at hy
  split at hy
  ·rcases List.mem_append.1 hy with hy | hy
   ·exact h1 y hy
   ·simp at hy;subst hy;exact h2
  ·exact h1 y hy
 intro l
 induction l with
 | nil=>intro st _ h1 h2;exact ⟨h1,h2⟩
 | cons x r ih =>
  intro st hx h1 h2;have hx1:=hx x (List.mem_cons_self ..);refine ih _ (fun y hy=>hx y (List.mem_cons_of_mem _ hy)) ?_ ?_
  ·show ∀ y ∈ (zR q st x.1).1,y.size≤n;unfold zR;by_cases c1:0 < st.2.size
   ·by_cases c2:q < (st.2.size:Int)+1+x.1.size
    ·rw [if_pos c1,if_pos c2];intro y hy
     rcases List.mem_append.1 hy with hy | hy
     ·exact h1 y hy
     ·simp at hy;subst hy;exact h2
    ·rw [if_pos c1,if_neg c2];exact h1
   ·rw [if_neg c1];exact h1
  ·show (zR q st x.1).2.size≤n;by_cases c1:0 < st.2.size
   ·by_cases c2:q < (st.2.size:Int)+1+x.1.size
    ·rw [(z4v c1 x c2).2];exact hx1
    ·rw [(z5i c1 x c2).2];omega
   ·rw [(z99 (q:=q) c1 x).2];exact hx1
def LeL (a b:List Int):Prop:=a.length=b.length∧∀ i,i < a.length→a.getD i 0≤b.getD i 0
theorem LeL.refl (a:List Int):LeL a a:=⟨rfl,fun _ _=>Int.le_refl _⟩
theorem LeL.trans {a b c:List Int} (h:LeL a b) (k:LeL b c):LeL a c:=⟨h.1.trans k.1,fun i hi=>Int.le_trans (h.2 i hi) (k.2 i (by rw [← h.1];exact hi))⟩
theorem LeL.sub {a b:List Int} (h:LeL a b) {c m:Nat} (hc:c+m≤a.length):LeL (z0J a c m) (z0J b c m):=by
 have hb:c+m≤b.length:=(by rw [← h.1];exact hc);refine ⟨by rw [z26 hc,z26 hb],fun i hi=>?_⟩;rw [z26 hc] at hi;rw [z7K hc hi,z7K hb hi];exact h.2 _ (by omega)
theorem zcL:∀ (a b:List Int),a.length=b.length→(List.zipWith (·+·) a b).sum=a.sum+b.sum
 | [],[],_=>by simp
 | [],_ :: _,h=>absurd h (by simp)
 | _ :: _,[],h=>absurd h (by simp)
 | x :: a,y :: b,h=>by
  rw [List.zipWith_cons_cons,List.sum_cons,List.sum_cons,List.sum_cons,zcL a b (by simpa using h)];omega
def ziO (l:List Int) (gap:Int) (x:GC):Int:=(z0J l x.col.toNat x.cols.toNat).sum+gap * (x.cols - 1)
def z1Y (ps:List (Int × Int)) (l:List Int):Nat→List Int
 | 0=>l
 | k+1=>if (sd ps k).1=1 then (z1Y ps l k).set k (max ((z1Y ps l k).getD k 0) (sd ps k).2) else z1Y ps l k
theorem z20 (ps:List (Int × Int)) (l:List Int):∀ k,(z1Y ps l k).length=l.length
 | 0=>rfl
 | k+1=>by rw [z1Y];split;rw [List.length_set];exact z20 ps l k;exact z20 ps l k
theorem z34 (ps:List (Int × Int)) (l:List Int) {i:Nat}:∀ k,k≤i→(z1Y ps l k).getD i 0=l.getD i 0
 | 0,_=>rfl
 | k+1,h=>by
  rw [z1Y]
  split
  ·rw [← z34 ps l (i:=i) k (by omega)];simp only [List.getD,List.getElem?_set_ne (show k ≠ i by omega)]
  ·exact z34 ps l k (by omega)
def zdg (ps:List (Int × Int)) (k:Nat) (x:Int):Int:=if (sd ps k).1=1 then max x (sd ps k).2 else x
theorem zbk (ps:List (Int × Int)) (l:List Int) {i:Nat} (hi:i < l.length):∀ k,i < k→(z1Y ps l k).getD i 0=zdg ps i (l.getD i 0)
 | k+1,h=>by
  rw [z1Y];by_cases e:i=k
  ·subst e;rw [z34 ps l i (Nat.le_refl _)];have hl:i < (z1Y ps l i).length:=(by rw [z20];exact hi);unfold zdg
   split
   ·simp [List.getD,hl]
   ·exact z34 ps l i (Nat.le_refl _)
  ·rw [← zbk ps l hi k (by omega)]
   split
   ·simp only [List.getD,List.getElem?_set_ne (show k ≠ i by omega)]
   ·rfl
def z3R (t:T) (x:GC):Int:=(z0M (z04 (zL t x)):Nat)
def zy (t:T):Nat:=(gOf t).cols.toNat
def z2n (t:T) (p:GC→Int):List Int:=z1u p t.gap (gOf t).cells (z0t (zy t)) 4
def zu (t:T):List Int:=z1Y t.cols (z2n t (z3R t)) (zy t)
theorem z2x (t:T) (p:GC→Int):(z2n t p).length=zy t:=by unfold z2n;rw [z3P];simp [z0t]
theorem z1n (t:T):(zu t).length=zy t:=by unfold zu;rw [z20,z2x]
theorem z4Z {t:T} {C:Nat} (h:(gOf t).cols=C):zy t=C:=by unfold zy;rw [h];exact Int.toNat_natCast C
theorem z6g {t:T} (hD:zY t) {p:GC→Int} (hp:∀ x,p x≤30):UpB (z2n t p) 4800:=by
 obtain ⟨h40,C,hgc,hC,hcel⟩:=z3Q hD;unfold z2n;rw [z4Z hgc];exact z96 hcel h40 (by simp [z0t]) hp (zcD _) 4 (by omega)
theorem zbl {t:T} {k:Nat} (hk:k < zy t):(sd t.cols k).1=1→0≤(sd t.cols k).2∧(sd t.cols k).2≤60:=by
 intro h1
 cases h:zr t with
 | false=>unfold zy at hk;rw [zaS h] at hk;exact absurd hk (Nat.not_lt_zero _)
 | true =>
  simp only [zr,z1L,Bool.and_eq_true,List.all_eq_true] at h;by_cases hl:k < t.cols.length
  ·rw [z8x hl] at h1 ⊢;have:=h.2.2.2.1.2 (t.cols.getD k (0,0)) (by rw [show t.cols.getD k (0,0)=t.cols[k] by simp [List.getD,hl]];exact List.getElem_mem hl);simp only [z1S,decide_eq_true_eq] at this;omega
  ·rw [zat (z2v (by omega))] at h1;simp at h1
theorem zdh {t:T} {k:Nat} (hk:k < zy t):(zu t).getD k 0=zdg t.cols k ((z2n t (z3R t)).getD k 0):=by
 unfold zu;exact zbk _ _ (by rw [z2x];exact hk) _ hk
theorem z9U (t:T) (x:GC):0≤z3R t x∧z3R t x≤30:=by
 unfold z3R;have:=z6f (z04 (zL t x));omega
theorem z3D {t:T} (hD:zY t):UpB (zu t) 5000:=by
 intro i hi;rw [z1n] at hi;rw [zdh hi];have h1:=z6g hD (fun x=>(z9U t x).2) i (by rw [z2x];exact hi);have h2:=zbl hi;unfold zdg
 split
 ·have:=h2 (by assumption);omega
 ·omega
def z3e (a b:List Int):Nat→List Int
 | 0=>a
 | k+1=>(z3e a b k).set k (max (a.getD k 0) (b.getD k 0))
theorem z3E (a b:List Int):∀ k,(z3e a b k).length=a.length
 | 0=>rfl
 | k+1=>by rw [z3e,List.length_set];exact z3E a b k
theorem z9W (a b:List Int) {i:Nat}:∀ k,k≤i→(z3e a b k).getD i 0=a.getD i 0
 | 0,_=>rfl
 | k+1,h=>by
  rw [z3e,← z9W a b (i:=i) k (by omega)];simp only [List.getD,List.getElem?_set_ne (show k ≠ i by omega)]
theorem zbm (a b:List Int) {i:Nat} (hi:i < a.length):∀ k,i < k→(z3e a b k).getD i 0=max (a.getD i 0) (b.getD i 0)
 | k+1,h=>by
  rw [z3e];by_cases e:i=k
  ·subst e;have hl:i < (z3e a b i).length:=(by rw [z3E];exact hi);simp only [List.getD,List.getElem?_set_self hl,Option.getD_some]
  ·rw [← zbm a b hi k (by omega)];simp only [List.getD,List.getElem?_set_ne (show k ≠ i by omega)]
def z4M (t:T) (x:GC):Int:=(z4w (zL t x):Nat)
theorem zbn (t:T) (x:GC):0≤z4M t x∧z4M t x≤30:=by
 unfold z4M;have:=z9V (zL t x);omega
def z2E (t:T):List Int:=z3e (z2n t (z4M t)) (zu t) (zy t)
theorem z5A (t:T):(z2E t).length=zy t:=by unfold z2E;rw [z3E,z2x]
theorem z9X {t:T} {k:Nat} (hk:k < zy t):(z2E t).getD k 0=max ((z2n t (z4M t)).getD k 0) ((zu t).getD k 0):=by
 unfold z2E;exact zbm _ _ (by rw [z2x];exact hk) _ hk
theorem z7M {t:T} (hD:zY t):UpB (z2E t) 5000:=by
 intro i hi;rw [z5A] at hi;rw [z9X hi];have h1:=z6g hD (fun x=>(zbn t x).2) i (by rw [z2x];exact hi);have h2:=z3D hD i (by rw [z1n];exact hi);omega
def zn (t:T) (q:Int) (k:Nat):Bool:=decide ((sd t.cols k).1=q)
def z0q (t:T) (width:Int):Int:=width - ((zu t).sum+t.gap * ((zy t:Int) - 1))
def z1O (t:T) (width:Int) (l:List Int):List Int:=(List.range l.length).map (fun k=>if zn t 2 k=true then max 0 (width * (sd t.cols k).2 / 100 - l.getD k 0) else 0)
def z1P (t:T) (l:List Int):List Int:=(List.range l.length).map (fun k=>if zn t 0 k=true then max 0 ((z2E t).getD k 0 - l.getD k 0) else 0)
def z0S (t:T) (width:Int):List Int:=z1o (zu t) (z0i (z0q t width) (z1O t width (zu t)))
def z1Q (t:T) (width:Int):Int:=z2e (z0q t width) (z1O t width (zu t))
def z1q (t:T) (width:Int):List Int:=z1o (z0S t width) (z0i (z1Q t width) (z1P t (z0S t width)))
def z2f (t:T) (width:Int):Int:=z2e (z1Q t width) (z1P t (z0S t width))
def zW (t:T) (width:Int):List Int :=
 if z0q t width≤0 then zu t
 else if 0 < (zi (zn t 0) (zy t)).length then z1o (z1q t width) (zo (z2f t width) (z0Y (zn t 0) (zy t)))
 else if 0 < (zi (zn t 2) (zy t)).length then z1o (z1q t width) (zo (z2f t width) (z0Y (zn t 2) (zy t)))
 else z1q t width
theorem z5k {a b:List Int} (h:b.length=a.length):(z1o a b).length=a.length:=by unfold z1o;rw [List.length_zipWith,h];omega
theorem z7N {a b:List Int} (h:b.length=a.length):(z1o a b).sum=a.sum+b.sum:=zcL a b h.symm
theorem z4b {a b:List Int} (h:b.length=a.length) {i:Nat} (hi:i < a.length):(z1o a b).getD i 0=a.getD i 0+b.getD i 0:=by
 have hb:i < b.length:=(by omega);have hz:i < (List.zipWith (·+·) a b).length:=(by rw [List.length_zipWith];omega);unfold z1o;simp only [List.getD,List.getElem?_eq_getElem hi,List.getElem?_eq_getElem hb,List.getElem?_eq_getElem hz,Option.getD_some,List.getElem_zipWith]
theorem z3F (t:T) (width:Int) (l:List Int):(z1O t width l).length=l.length:=by simp [z1O]
theorem z36 (t:T) (l:List Int):(z1P t l).length=l.length:=by simp [z1P]
theorem z4x {t:T} {width:Int} {l:List Int} {k:Nat} (h:k < l.length):(z1O t width l).getD k 0=if zn t 2 k=true then max 0 (width * (sd t.cols k).2 / 100 - l.getD k 0) else 0:=by simp [z1O,List.getD,h]
theorem z4y {t:T} {l:List Int} {k:Nat} (h:k < l.length):(z1P t l).getD k 0=if zn t 0 k=true then max 0 ((z2E t).getD k 0 - l.getD k 0) else 0:=by simp [z1P,List.getD,h]
theorem zdj {t:Int} {l:List Int} (ht:0≤t∧t≤100000) (hl:l.length≤100) (h:∀ i,i < l.length→0≤l.getD i 0∧l.getD i 0≤100000):zq t l=true:=by
 simp only [zq,Bool.and_eq_true,decide_eq_true_eq,List.all_eq_true];refine ⟨⟨by simp only [wtB,decide_eq_true_eq];exact ht,hl⟩,fun x hx=>?_⟩;obtain ⟨i,hi,rfl⟩:=List.mem_iff_getElem.1 hx;have:=h i hi;rw [show l.getD i 0=l[i] by simp [List.getD,hi]] at this;simp only [wtB,decide_eq_true_eq];exact this
theorem z1Z {t:Int} {l:List Int} (hok:zq t l=true):(z0i t l).length=l.length∧(z0i t l).sum+z2e t l=t∧0≤z2e t l∧z2e t l≤t∧∀ i,i < l.length→0≤(z0i t l).getD i 0∧(z0i t l).getD i 0≤l.getD i 0:=by
 obtain ⟨ht,hlen,hw⟩:=z01 hok;have hg:∀ i,i < l.length→0≤l.getD i 0:=fun i hi=>(z3i hw hi).1;by_cases hs:l.sum≤t
 ·rw [(z3r hok hs).1,(z3r hok hs).2];have h0:0≤l.sum:=(z2Q hw).1;exact ⟨rfl,by omega,by omega,by omega,fun i hi=>⟨hg i hi,Int.le_refl _⟩⟩
 ·rw [(z2G hok hs).1,(z2G hok hs).2]
  have hpos:0 < l.length:=by
   cases l with
   | nil=>simp at hs;omega
   | cons _ _=>simp
  exact ⟨z1m hok,by rw [z33 hok hpos];omega,Int.le_refl _,ht.1,fun i hi=>zda hok (by omega) hi⟩
theorem z7d {t:T} {k:Nat} (hk:k < zy t):((sd t.cols k).1=0)∨((sd t.cols k).1=1∧0≤(sd t.cols k).2∧(sd t.cols k).2≤60)∨((sd t.cols k).1=2∧1≤(sd t.cols k).2∧(sd t.cols k).2≤100):=by
 cases h:zr t with
 | false=>unfold zy at hk;rw [zaS h] at hk;exact absurd hk (Nat.not_lt_zero _)
 | true =>
  simp only [zr,z1L,Bool.and_eq_true,List.all_eq_true] at h;by_cases hl:k < t.cols.length
  ·rw [z8x hl];have:=h.2.2.2.1.2 (t.cols.getD k (0,0)) (by rw [show t.cols.getD k (0,0)=t.cols[k] by simp [List.getD,hl]];exact List.getElem_mem hl);simp only [z1S,decide_eq_true_eq] at this;omega
  ·rw [zat (z2v (by omega))];exact .inl rfl
theorem z8z {width n:Int} (hw:0≤width∧width≤300) (hn:1≤n∧n≤100):0≤width * n / 100∧width * n / 100≤300:=by
 have h1:0≤width * n:=Int.mul_nonneg hw.1 (by omega);have h2:width * n≤300 * 100:=Int.mul_le_mul hw.2 hn.2 (by omega) (by omega);omega
theorem z3G {t:T} (hD:zY t) (hok:zr t=true) {width:Int} (hw:0≤width∧width≤300) (hr:0 < z0q t width) :
  zq (z0q t width) (z1O t width (zu t))=true∧zq (z1Q t width) (z1P t (z0S t width))=true∧(0≤z2f t width∧z2f t width≤300)∧(z0S t width).length=zy t∧(z1q t width).length=zy t∧(z1q t width).sum+z2f t width=(zu t).sum+z0q t width ∧
  (∀ k,k < zy t→(zu t).getD k 0≤(z0S t width).getD k 0∧(z0S t width).getD k 0≤(z1q t width).getD k 0∧(zn t 2 k=false→(z0S t width).getD k 0=(zu t).getD k 0)∧(zn t 0 k=false→(z1q t width).getD k 0=(z0S t width).getD k 0)):=by
 obtain ⟨_,C,hgc,hC,hcel⟩:=z3Q hD;have hCN:=z4Z hgc;have hlen:=z1n t;have hup:=z3D hD;have hsb:=z4Y (l:=zu t) (B:=5000) (fun x hx=>hup.mem hx)
 have hC1:1≤zy t:=by
  have h1:(gOf t).cols=z0n (max 1 (t.cols.length:Int)) (zF t):=(by rw [z2Z hok]);have h2:=z4q (zF t) (max 1 (t.cols.length:Int));unfold zy;omega
 have hg:0≤t.gap∧t.gap≤3:=by
  simp only [zr,inB,Bool.and_eq_true,decide_eq_true_eq] at hok;exact hok.2.2.1
 have hgap:0≤t.gap * ((zy t:Int) - 1):=Int.mul_nonneg hg.1 (by omega);have hr300:z0q t width≤300:=(by unfold z0q;omega)
 have ok1:zq (z0q t width) (z1O t width (zu t))=true:=zdj (by omega) (by rw [z3F,hlen];omega) (fun i hi=>by
  rw [z3F] at hi;rw [z4x hi];have hu:=hup i hi
  split
  ·rename_i hp
   have hk:=z7d (t:=t) (k:=i) (by rw [← hlen];exact hi);simp only [zn,decide_eq_true_eq] at hp;have:=z8z hw (n:=(sd t.cols i).2) (by omega);omega
  ·omega)
 obtain ⟨l1,s1,n1,m1,e1⟩:=z1Z ok1;rw [z3F] at l1 e1;have ho1:(z0S t width).length=zy t:=(by unfold z0S;rw [z5k l1,hlen]);have g1:∀ k,k < zy t→(z0S t width).getD k 0=(zu t).getD k 0+(z0i (z0q t width) (z1O t width (zu t))).getD k 0:=fun k hk=>by unfold z0S;exact z4b l1 (by rw [hlen];exact hk)
 have hl1:0≤z1Q t width∧z1Q t width≤300:=(by unfold z1Q;omega)
 have ok2:zq (z1Q t width) (z1P t (z0S t width))=true:=zdj (by omega) (by rw [z36,ho1];omega) (fun i hi=>by
  rw [z36] at hi;rw [z4y hi];have hi':i < zy t:=(by rw [← ho1];exact hi);have hwu:=z7M hD i (by rw [z5A];exact hi');have h3:=g1 i hi';have h4:=hup i (by rw [hlen];exact hi');have h5:=e1 i (by rw [hlen];exact hi')
  split <;> omega)
 obtain ⟨l2,s2,n2,m2,e2⟩:=z1Z ok2;rw [z36] at l2 e2;have ho2:(z1q t width).length=zy t:=(by unfold z1q;rw [z5k l2,ho1]);have g2:∀ k,k < zy t→(z1q t width).getD k 0=(z0S t width).getD k 0+(z0i (z1Q t width) (z1P t (z0S t width))).getD k 0:=fun k hk=>by unfold z1q;exact z4b l2 (by rw [ho1];exact hk)
 refine ⟨ok1,ok2,by unfold z2f;omega,ho1,ho2,?_,fun k hk=>?_⟩
 ·have a1:(z0S t width).sum=(zu t).sum+(z0i (z0q t width) (z1O t width (zu t))).sum:=(by unfold z0S;exact z7N l1);have a2:(z1q t width).sum=(z0S t width).sum+(z0i (z1Q t width) (z1P t (z0S t width))).sum:=(by unfold z1q;exact z7N l2);have a3:z1Q t width=z2e (z0q t width) (z1O t width (zu t)):=rfl;have a4:z2f t width=z2e (z1Q t width) (z1P t (z0S t width)):=rfl;rw [a2,a1,a4];omega
 ·have b1:=e1 k (by rw [hlen];exact hk);have b2:=e2 k (by rw [ho1];exact hk);rw [z4x (by rw [hlen];exact hk)] at b1;rw [z4y (by rw [ho1];exact hk)] at b2;have c1:=g1 k hk;have c2:=g2 k hk;refine ⟨by omega,by omega,fun h=>?_,fun h=>?_⟩
  ·rw [if_neg (by rw [h];simp)] at b1;omega
  ·rw [if_neg (by rw [h];simp)] at b2;omega
theorem zbr {P:Nat→Bool} {n:Nat}:(z0Y P n).sum=((zi P n).length:Int):=by
 have hz:∀ i,i < (z0Y P n).length→P i=false→(z0Y P n).getD i 0=0:=fun i hi hP=>by
  rw [z1A] at hi;rw [z5j hi,if_neg (by rw [hP];simp)]
 have:=z4a (l:=z0Y P n) (P:=P) (z0Y P n).length (Nat.le_refl _) hz;rw [z1b,z1A,z9a,z5b] at this;exact this.symm
theorem z5B {P:Nat→Bool} {n:Nat} (h:¬ 0 < (zi P n).length) {k:Nat} (hk:k < n):P k=false:=by
 cases hP:P k with
 | false=>rfl
 | true =>
  have:k ∈ zi P n:=(by unfold zi;rw [List.mem_filter];exact ⟨List.mem_range.2 hk,hP⟩);exact absurd (List.length_pos_of_mem this) h
theorem z8A {P:Nat→Bool} {n:Nat} {t:Int} {l:List Int} (hl:l.length=n) (hn:n≤100) (ht:0≤t∧t≤300) (h0:0 < (zi P n).length) :
  (z1o l (zo t (z0Y P n))).length=n∧(z1o l (zo t (z0Y P n))).sum=l.sum+t∧∀ k,k < n→l.getD k 0≤(z1o l (zo t (z0Y P n))).getD k 0∧(P k=false→(z1o l (zo t (z0Y P n))).getD k 0=l.getD k 0):=by
 have hok:=z7c P (n:=n) (t:=t) (by omega) hn;have hs:=z1m hok;rw [z1A] at hs
 have hpos:0 < n:=by
  have:=(z2F h0).1;omega
 refine ⟨by rw [z5k (by rw [hs,hl]),hl],by rw [z7N (by rw [hs,hl]),z33 hok (by rw [z1A];exact hpos)],fun k hk=>?_⟩;rw [z4b (by rw [hs,hl]) (by rw [hl];exact hk)];have h1:=z1K (t:=t) (l:=z0Y P n) k (by rw [hs];exact hk);refine ⟨by omega,fun hP=>?_⟩;rw [z4K hok (by rw [zbr];omega) (by rw [z1A];exact hk) (by rw [z5j hk,if_neg (by rw [hP];simp)])];omega
def z6X (t:T):Bool:=(List.range (zy t)).all (fun k=>zn t 1 k)
theorem za1 {t:T} (hD:zY t) (hok:zr t=true) {width:Int} (hw:0≤width∧width≤300) :
  (zW t width).length=zy t∧(zW t width).sum+t.gap * ((zy t:Int) - 1)=(if width < (zu t).sum+t.gap * ((zy t:Int) - 1)∨z6X t=true then (zu t).sum+t.gap * ((zy t:Int) - 1) else width) ∧
  ∀ k,k < zy t→(zu t).getD k 0≤(zW t width).getD k 0∧(zn t 1 k=true→(zW t width).getD k 0=(zu t).getD k 0):=by
 obtain ⟨_,C,hgc,hC,hcel⟩:=z3Q hD;have hCN:=z4Z hgc
 have hk1:∀ k,zn t 1 k=true→zn t 0 k=false∧zn t 2 k=false:=fun k h=>by
  simp only [zn,decide_eq_true_eq] at h;simp [zn,h]
 by_cases hr:z0q t width≤0
 ·have e:zW t width=zu t:=(by unfold zW;rw [if_pos hr]);rw [e];refine ⟨z1n t,?_,fun k _=>⟨Int.le_refl _,fun _=>rfl⟩⟩;unfold z0q at hr
  split
  ·rfl
  ·rename_i hn
   have:¬ width < (zu t).sum+t.gap * ((zy t:Int) - 1):=fun h=>hn (.inl h);omega
 ·obtain ⟨_,_,hl2,_,ho2,hsum,hk⟩:=z3G hD hok hw (by omega);have hrr:z0q t width=width - ((zu t).sum+t.gap * ((zy t:Int) - 1)):=rfl;have hnl:¬ width < (zu t).sum+t.gap * ((zy t:Int) - 1):=(by omega);by_cases h0:0 < (zi (zn t 0) (zy t)).length
  ·have e:zW t width=z1o (z1q t width) (zo (z2f t width) (z0Y (zn t 0) (zy t))):=(by unfold zW;rw [if_neg hr,if_pos h0]);obtain ⟨a1,a2,a3⟩:=z8A ho2 (by omega) hl2 h0
   have hnf:¬ z6X t=true:=fun h=>by
    have hg:=z2F h0;have:=List.all_eq_true.1 h _ (List.mem_range.2 hg.1);have:=(hk1 _ this).1;rw [hg.2] at this
    cases this
   rw [e];refine ⟨a1,?_,fun k hkk=>?_⟩
   ·rw [if_neg (by rintro (h | h);exact hnl h;exact hnf h),a2];omega
   ·have b1:=a3 k hkk;have b2:=hk k hkk;refine ⟨by omega,fun h=>?_⟩;have c:=hk1 k h;rw [b1.2 c.1,b2.2.2.2 c.1,b2.2.2.1 c.2]
  ·by_cases h2:0 < (zi (zn t 2) (zy t)).length
   ·have e:zW t width=z1o (z1q t width) (zo (z2f t width) (z0Y (zn t 2) (zy t))):=(by unfold zW;rw [if_neg hr,if_neg h0,if_pos h2]);obtain ⟨a1,a2,a3⟩:=z8A ho2 (by omega) hl2 h2
    have hnf:¬ z6X t=true:=fun h=>by
     have hg:=z2F h2;have:=List.all_eq_true.1 h _ (List.mem_range.2 hg.1);have:=(hk1 _ this).2;rw [hg.2] at this
     cases this
    rw [e];refine ⟨a1,?_,fun k hkk=>?_⟩
    ·rw [if_neg (by rintro (h | h);exact hnl h;exact hnf h),a2];omega
    ·have b1:=a3 k hkk;have b2:=hk k hkk;refine ⟨by omega,fun h=>?_⟩;have c:=hk1 k h;rw [b1.2 c.2,b2.2.2.2 c.1,b2.2.2.1 c.2]
   ·have e:zW t width=z1q t width:=(by unfold zW;rw [if_neg hr,if_neg h0,if_neg h2])
    have hfx:z6X t=true:=List.all_eq_true.2 (fun k hkr=>by
     have hkk:=List.mem_range.1 hkr;have n0:=z5B h0 hkk;have n2:=z5B h2 hkk;have:=z7d hkk;simp only [zn,decide_eq_false_iff_not] at n0 n2;simp only [zn,decide_eq_true_eq]
     omega)
    have heq:z1q t width=zu t:=by
     apply List.ext_getElem (by rw [ho2,z1n]);intro i h1 h3;have hi:i < zy t:=(by rw [ho2] at h1;exact h1);have b:=hk i hi;have:=(b.2.2.2 (z5B h0 hi)).trans (b.2.2.1 (z5B h2 hi))
     simpa [List.getD,h1,h3] using this
    rw [e,heq];refine ⟨z1n t,by rw [if_pos (.inr hfx)],fun k _=>⟨Int.le_refl _,fun _=>rfl⟩⟩
def z4C (t:T) (width:Int):List Int:=if (zr t && inB width 0 300)=true then zW t width else []
def z7e (t:T) (l:List Int) (x:GC):List ByteArray:=z05 (z17 (z2N l t.gap x) (z04 (zL t x)))
def z1g (t:T) (l:List Int) (gs:List GC):List (List ByteArray):=gs.map (z7e t l)
def z3T (t:T) (width:Int):List (List ByteArray):=if (zr t && inB width 0 300)=true then z1g t (zW t width) (gOf t).cells else []
theorem zeC (l:List Int) (gap:Int) (x:GC):-9223372036854775808≤z2N l gap x∧z2N l gap x≤9223372036854775807:=by
 unfold z2N z1R
 split
 ·omega
 ·exact zfa _
theorem z4N (t:T) (l:List Int) (gs:List GC):(z1g t l gs).length=gs.length:=by simp [z1g]
theorem zdk (t:T) (l:List Int) {gs:List GC} {k:Nat} (h:k < gs.length):(z1g t l gs).getD k []=z7e t l (gs.getD k dG):=by simp [z1g,List.getD,h]
theorem zc2 (t:T) (l:List Int) {gs:List GC} {k:Nat} (h:k < gs.length):(z1g t l gs).take (k+1)=(z1g t l gs).take k ++ [z7e t l (gs.getD k dG)]:=by
 rw [List.take_succ_eq_append_getElem (by rw [z4N];exact h)];simp [z1g,List.getD,h]
theorem zeD (t:T) (l:List Int) (x:GC):(z7e t l x).length≤31:=by
 have h1:=(zez (z2N l t.gap x) (z04 (zL t x))).1;have h2:=z8v (zL t x);unfold z7e;omega
theorem zdl (t:T) (l:List Int) (x:GC):∀ y ∈ z7e t l x,y.size≤maxLen:=by
 refine zh6 (n:=maxLen) ?_ _ (fun y _=>?_)
 ·have:=(zeC l t.gap x).2;unfold maxLen;omega
 ·have:=y.2.2;unfold maxLen;omega
theorem zc3 (t:T) (l:List Int) (gs:List GC):∀ k ∈ z1g t l gs,∀ y ∈ k,y.size≤maxLen:=by
 intro k hk y hy;obtain ⟨x,_,rfl⟩:=List.mem_map.1 hk;exact zdl t l x y hy
end Go.Proofs.YtggmjiddadjilaiGreat
