/-
  PROVED HERE: what the program's piecesOf answers at a drawn table that is ok: the pieces of its body, in new memory; nothing that was in memory is turned. Also: 10 more texts of the same proof.
-/
import Derived.Test.YtggmjiddadjilamGreatC29
import Derived.Test.YtggmjiddadjilamGreatC18
import Derived.Test.YtggmjiddadjilamGreatC10
import Derived.Test.YtggmjiddadjilamGreatC22
set_option maxRecDepth 1000000
set_option maxHeartbeats 40000000
namespace Go.Proofs.YtggmjiddadjilamGreat
open Go.RowKit
theorem zhx {w:World} {base:Nat} {e:TypeId} {n cap g:Nat} {xs:List Value} (h:w.ownsRow base e 1 (.slice (some ⟨g,0,none⟩) n cap) n xs):∀ j u,xs[j]?=some u→w.cell? ((⟨g,0,none⟩:Addr).add j)=some u:=by
 intro j u hj
 rcases h.2 with ⟨e,_⟩ | ⟨g',cap',cur,e,hb,hg,h1,h2,h3,h4⟩
 ·cases e
 ·simp only [Value.slice.injEq,Option.some.injEq,Addr.mk.injEq,and_true,true_and] at e;obtain ⟨rfl,rfl⟩:=e
  have hjn:j < n:=by
   have:=(List.getElem?_eq_some_iff.1 hj).1;rw [h.1] at this;omega
  rw [← h4,List.getElem?_take_of_lt (by omega)] at hj;have e2:(⟨g,0,none⟩:Addr).add j=⟨g,j,none⟩:=(by simp [Addr.add];intro h;exact h.symm);rw [e2,zf hg,← Array.getElem?_toList,hj]
theorem z6n {w w':World} {base:Nat} {e:TypeId} {sz:Nat} {v:Value} {m:Nat} {xs:List Value} (h:w.ownsRow base e sz v m xs) (hb:Below w.heap.size w w'):w'.ownsRow base e sz v m xs :=
 ⟨h.1,h.2.elim Or.inl (fun ⟨g,cap,cur,hv,hg,hc,r⟩=>Or.inr ⟨g,cap,cur,hv,hg,(hb.block g (bL hc)).trans hc,r⟩)⟩
theorem zZ.cell1 {w:World} {B:Nat} {us:List Value} {ls:List (List PgS)} (h:zZ w B us ls):∀ u ∈ us,u.oneCell'=true:=by
 intro u hu;obtain ⟨i,hi,rfl⟩:=List.mem_iff_getElem.1 hu;obtain ⟨a,c,e⟩:=(h.2 i (by rw [← h.1];exact hi)).form;have e2:us.getD i (.slice none 0 0)=us[i]:=(by simp [List.getD,hi]);rw [← e2,e];rfl
structure PH (w:World) (z:Nat) (ac ar:Option Addr) (cc cr:Nat) (t:T) (hs:List Int) (vh vb:Value) (bl:List Int) (W:World):Prop where
 below:Below w.heap.size w W
 box:W.heap[w.heap.size]?=some (.cells #[.slice ac t.cols.length cc,.int .i64 t.head,.int .i64 t.foot,.slice ar t.rows.length cr,.int .i64 t.gap] 26)
 ta:TA W z ac ar cc cr t
 hts:zu W vh hs
 bnd:zu W vb bl
theorem PH.kept {w:World} {z:Nat} {ac ar:Option Addr} {cc cr:Nat} {t:T} {hs:List Int} {vh vb:Value} {bl:List Int} {W W':World} (h:PH w z ac ar cc cr t hs vh vb bl W) (k:Below W.heap.size W W'):PH w z ac ar cc cr t hs vh vb bl W' :=
 ⟨zh h.below k,(k.block _ (bL h.box)).trans h.box,h.ta.kept k,h.hts.kept k,h.bnd.kept k⟩
theorem zcr (ac ar:Option Addr) (cc cr:Nat) (t:T) (hD:z0g t) (htk:zC t=true) (hs:List Int) (hl:hs.length=t.rows.length) (hb:∀ x ∈ hs,0≤x∧x≤1000) (v:Value) (w:World) {z:Nat} (hc:z07 w z (.slice ac t.cols.length cc) t.cols) (hr:z01 w z (.slice ar t.rows.length cr) t.rows) (hv:zu w v hs) :
  Calls Tryz.prog 38 #[.agg #[.slice ac t.cols.length cc,.int .i64 t.head,.int .i64 t.foot,.slice ar t.rows.length cr,.int .i64 t.gap],v] w fun e w'=>∃ u us,e=.returned u∧w'.ownsRow w.heap.size 73 1 u us.length us∧zZ w' w.heap.size us (z0X t hs)∧Below w.heap.size w w':=by
 obtain ⟨i0,hi0,hz0,hz1,hz2⟩:=info_parts z5Z;obtain ⟨j0,hj0,hy0,hy1,hy2⟩:=info_parts z9x;obtain ⟨av,cv,rfl,_⟩:=hv.form;rw [hl] at hv ⊢;have HK0:=Hd (ze (Below.refl w.heap.size w) (.cells #[.slice ac t.cols.length cc,.int .i64 t.head,.int .i64 t.foot,.slice ar t.rows.length cr,.int .i64 t.gap] 26));have HX0:=Hd (zj w (.cells #[.slice ac t.cols.length cc,.int .i64 t.head,.int .i64 t.foot,.slice ar t.rows.length cr,.int .i64 t.gap] 26));have HT0:Hid (TA w z ac ar cc cr t):=⟨hc,hr⟩;have HV0:=Hd hv;have hs0:(w.alloc (.cells #[.slice ac t.cols.length cc,.int .i64 t.head,.int .i64 t.foot,.slice ar t.rows.length cr,.int .i64 t.gap] 26)).heap.size=w.heap.size+1:=(by simp);have hR8:=z0Q htk;have HGk:=Hd (z6N hD);have KG:=Hd (fun W (h:TA W z ac ar cc cr t)=>z6m ac ar cc cr t hD W h.1 h.2);have HGr:Hid ((gOf t).rows=(t.rows.length:Int)):=Hd (by rw [z2q htk])
 have HFc:Hid (∀ row,z4N (gOf t).cells row=z26 (gOf t).cells row):=Hd (fun row=>by
  refine zhc (R:=t.rows.length) (C:=z0q (max 1 (t.cols.length:Int)) (zL t)) (fun a ha=>?_) row;rw [z2q htk] at ha;exact z8M (z3E htk hD) ha)
 have KP:=Hd (fun W (q:Int) (h:TA W z ac ar cc cr t)=>z8O ac ar cc cr t q W h.1 h.2);have HB:=Hd hb;have HL:=Hd hl;clear hc hr hv hl hb;go_enter Tryz.func38,Tryz.ntmps38;go_upto_region 2 with fail
 generalize w.alloc (.cells #[.slice ac t.cols.length cc,.int .i64 t.head,.int .i64 t.foot,.slice ar t.rows.length cr,.int .i64 t.gap] 26)=W0 at HK0 HX0 hs0 ⊢;obtain ⟨b0,b1,b2,b3,b4⟩:=zU HX0.out;go_wp2_with fail
 refine (KG.out _ (HT0.out.kept HK0.out)).mono ?_;rintro e w1 ⟨vg,rfl,hO1,hb1⟩;obtain ⟨ag,cg,rfl⟩:=z5w hO1;rw [HGr.out];have HG1:=Hd (hO1.at HGk.out);have HX1:=Hd ((hb1.block w.heap.size (by omega)).trans HX0.out);have HK1:=Hd (zh HK0.out hb1);have hs1:w.heap.size < w1.heap.size:=(by have:=hb1.size;omega);clear hb1 hO1 b0 b1 b2 b3 b4 KG HX0 HK0;go_wp2_with fail
 refine (zca t.rows.length (by omega) (gOf t).cols ag cg (gOf t).cells HFc.out w1 HG1.out).mono ?_;rintro e w2 ⟨vb,rfl,hI2,hb2⟩;obtain ⟨ab0,cb0,rfl⟩:=hI2.form;have hO2:=hI2.owns;have HX2:=Hd ((hb2.block w.heap.size hs1).trans HX1.out);have HK2:=Hd (zh HK1.out hb2);have hs2:w.heap.size < w2.heap.size:=(by have:=hb2.size;omega);have hs12:=hb2.size;have hbl:=z38 (gOf t).cells t.rows.length;have HL2:=Hd (z58 (gOf t).cells t.rows.length);have HL3:=Hd (fun (k:Nat)=>zcg (gs:=(gOf t).cells) (R:=t.rows.length) (k:=k));have HL4:=Hd (fun (k:Nat)=>z3F (gs:=(gOf t).cells) (R:=t.rows.length) (k:=k));have HPT:Hid (z0X t hs=z18 t hs (z0a (gOf t).cells t.rows.length) (zG (gOf t).cells t.rows.length).length):=Hd rfl;have HPL:Hid (∀ k,(z18 t hs (z0a (gOf t).cells t.rows.length) k).length≤1000 * k):=Hd (fun k=>z7O HB.out _ k);generalize z0a (gOf t).cells t.rows.length=L at HL2 HL3 HL4 HPT HPL;generalize zG (gOf t).cells t.rows.length=bs at hI2 hO2 hbl HL2 HL3 HPT;clear hb2 HX1 HK1 HG1 hI2 HFc;go_wp2_with (at_builtin;refine wpList_append_own _ rfl _ _ 36 rfl w1.heap.size 3 j0 (.int .i64 0) 1 8 Tryz.underlying36 hj0 hy0 hy1 hy2 rfl (by decide) _ _ _ rfl (hO2.alloc _) ⟨w2.heap.size,0,none⟩ 1 1 [.int .i64 (t.rows.length:Int)] rfl rfl ?d1 ?d2 ?d3 ?d4 ?d5 ?_)
 case d1=>exact z0D (zj w2 (.cells #[.int .i64 (t.rows.length:Int)] 3))
 case d2=>simp [Value.oneCell']
 case d3=>unfold maxLen;omega
 case d4=>omega
 case d5=>simp;omega
 intro v5 w5 hown5 hgrow5 _;have hK5:Below w.heap.size w w5:=(ze HK2.out _).grown hgrow5 (by simp;omega) (fun b hb=>by have:=(hO2.lt b hb).1;have:=HK2.out.size;omega);have hI5:zu w5 v5 (bs ++ [(t.rows.length:Int)]):=(zq.of_owns (B:=w1.heap.size) (l:=bs ++ [(t.rows.length:Int)]) (by simpa using hown5)).at;have hne5:some w.heap.size ≠ (Value.slice ab0 bs.length cb0).ownBlock:=fun e=>by have:=(hO2.lt _ e.symm).1;omega
 have hX5:=(hgrow5.block w.heap.size (by simp;omega) hne5).trans ((Below.heap_alloc _ _ _ hs2).trans HX2.out);have HP5:Hid (PH w z ac ar cc cr t hs (.slice av t.rows.length cv) v5 (bs ++ [(t.rows.length:Int)]) w5):=Hd ⟨hK5,hX5,HT0.out.kept hK5,HV0.out.kept hK5,hI5⟩;obtain ⟨g5,cap5,rfl⟩:=Joins.ownsRow_form hown5 (by omega)
 have hc5:bs.length+1≤cap5∧cap5≤9223372036854775807:=by
  obtain ⟨_,c,e,h1,h2,_⟩:=hI5;simp only [Value.slice.injEq] at e;obtain ⟨_,_,rfl⟩:=e;unfold maxLen at h2;rw [List.length_append,List.length_cons,List.length_nil] at h1;omega
 clear hK5 hI5 hne5 hX5 hown5 hgrow5 hO2 HK2 HX2 HT0 HV0 hs1;go_wp2_with fail
 go_loopw [5,23] (fun o i W=>∃ (k:Nat) (us:List Value) (vo:Value),k≤bs.length∧i=.int .i64 (k:Int)∧o=vo∧Hid (W.ownsRow w5.heap.size 73 1 vo us.length us)∧Hid (zZ W w5.heap.size us (z18 t hs L k))∧Hid (Below w5.heap.size w5 W)) (fun _ i _=>bs.length - (intOf i).toNat)
 case atStart=>exact ⟨0,[],_,Nat.zero_le _,rfl,rfl,⟨rfl,.inl ⟨rfl,rfl⟩⟩,zZ.nil _ _,Below.refl _ _⟩
 case round =>
  obtain ⟨k,us,vo,hk,rfl,rfl,HO,HP,HBk⟩:=hrel
  have hub:us.length≤1000 * k:=by
   have:=HP.out.1;have:=HPL.out k;omega
  have HUl:=Hd HP.out.1;have HPr:=Hd (HP5.out.kept HBk.out);obtain ⟨ao,co,rfl,_⟩:=z0i HO.out;by_cases hlt:k < bs.length
  case neg =>
   obtain rfl:k=bs.length:=by omega
   have hsz:=HP5.out.below.size;go_wp2;go_ret;exact ⟨_,us,rfl,z97 HO.out hsz,by rw [HPT.out];exact HP.out.base hsz,HPr.out.below⟩
  obtain ⟨s1,s2⟩:=HL4.out k (by rw [HL2.out];omega);have HA:=Hd (show L.getD k 0=L.getD k 0 from rfl);obtain ⟨a,ha⟩:∃ a,L.getD k 0=a:=⟨_,rfl⟩;obtain ⟨m,hm⟩:∃ m,L.getD (k+1) 0=a+m:=⟨L.getD (k+1) 0 - a,by omega⟩;have x1:=(HPr.out.bnd.get (i:=k) (by simp;omega));have x2:=(HPr.out.bnd.get (i:=k+1) (by simp;omega));rw [HL3.out k (by rw [HL2.out];omega),ha] at x1;rw [HL3.out (k+1) (by rw [HL2.out];omega),hm] at x2;rw [ha,hm] at s1;rw [hm] at s2;replace HA:=Hd ha;have HA2:=Hd hm;obtain ⟨gx,ox,cx,e',hz1,hz2,hz3,x1⟩:=x1;clear hz1 hz2 hz3;simp only [Value.slice.injEq,Option.some.injEq,Addr.mk.injEq,and_true] at e';obtain ⟨⟨rfl,rfl⟩,hz,rfl⟩:=e';clear hz;obtain ⟨gx,ox,cx,e',hz1,hz2,hz3,x2⟩:=x2;clear hz1 hz2 hz3;simp only [Value.slice.injEq,Option.some.injEq,Addr.mk.injEq,and_true] at e';obtain ⟨⟨rfl,rfl⟩,hz,rfl⟩:=e';clear hz;have hm1:1≤m:=(by omega);have hla:a+m≤hs.length:=(by rw [HL.out];exact s2);rw [Nat.zero_add] at x1 x2;obtain ⟨b0,b1,b2,b3,b4⟩:=zU HPr.out.box;have KQ:=Hd (KP.out wr (a:Int) HPr.out.ta);have HFA:=Hd (fun (h:¬ z06 t (a:Int)=1)=>zap (hs:=hs) (b:=a+m) h);have HFB:=Hd (fun (h:z06 t (a:Int)=1) h2=>zaq (hs:=hs) (b:=a+m) h h2);have HFC:=Hd (fun (h:z06 t (a:Int)=1) h2=>z7N (hs:=hs) (b:=a+m) h h2);have hsub:a+m - a=m:=(by omega);rw [hsub] at HFB HFC;clear ha hm s1 hsub;by_cases hp:z06 t (a:Int)=1
  case neg =>
   have HS:=Hd (HFA.out hp);have hp2:(z06 t (a:Int) != 1)=true:=bne_iff_ne.2 hp;clear HFA HFB HFC;go_wp2_with fail
   refine KQ.out.mono ?_;rintro e w2 ⟨rfl,hb2⟩;have HO2:=Hd (z6n HO.out hb2)
   have HP2:Hid (zZ w2 w5.heap.size us (z18 t hs L (k+1))):=Hd (by
    rw [z18,HA.out,HA2.out,HS.out,List.append_nil];exact HP.out.kept hb2)
   have HB2:=Hd (zh HBk.out hb2);clear hb2 b0 b1 b2 b3 b4 x1 x2;go_wp2;go_roundw
   case rel=>exact ⟨k+1,us,_,by omega,by go_num,rfl,HO2,HP2,HB2⟩
   case measure=>simp [intOf];omega
  replace HFB:=Hd (HFB.out hp);replace HFC:=Hd (HFC.out hp);rw [hp] at KQ;clear hp HFA;go_wp2_with fail
  refine KQ.out.mono ?_;rintro e w2 ⟨rfl,hb2⟩;replace HO:=Hd (z6n HO.out hb2);replace HP:=Hd (HP.out.kept hb2);replace HBk:=Hd (zh HBk.out hb2);have hK2:=HPr.out.kept hb2;have hsz2:=HBk.out.size;clear hb2 b0 b1 b2 b3 b4 KQ HPr;have hx:=(hK2.bnd.get (i:=k+1) (by simp;omega));rw [HL3.out (k+1) (by rw [HL2.out];omega),HA2.out,Int.natCast_add] at hx;obtain ⟨gx,ox,cx,e',hz1,hz2,hz3,x3⟩:=hx;clear hz1 hz2 hz3;simp only [Value.slice.injEq,Option.some.injEq,Addr.mk.injEq,and_true] at e';obtain ⟨⟨rfl,rfl⟩,hz,rfl⟩:=e';clear hz x1 x2;rw [Nat.zero_add] at x3;have KW:=Hd (z7y hs a m hla (by have:=HL.out;omega) _ w2 hK2.hts);have HPk:=Hd hK2;have HLn:=Hd (z1O hs m a)
  have HEd:Hid ((zK hs a m).getD 0 dP=⟨(a:Int),0,hs.getD a 0⟩):=Hd (by
   obtain ⟨q,rfl⟩:∃ q,m=q+1:=⟨m - 1,by omega⟩
   rfl)
  have hya:0≤hs.getD a 0∧hs.getD a 0≤1000:=HB.out _ (by
   have h:a < hs.length:=(by omega);simp [List.getD,h])
  clear hK2;go_wp2_with fail
  refine KW.out.mono ?_;rintro e w3 ⟨ub,rfl,hU,hb3⟩;obtain ⟨ab,cb,rfl⟩:=hU.form;rw [HLn.out] at hU ⊢;have HO3:=Hd (z6n HO.out hb3);have HP3:=Hd (HP.out.kept hb3);have HB3:=Hd (zh HBk.out hb3);have hsz3:=HB3.out.size;have hK3:=HPk.out.kept hb3;have HU:=Hd (hU.base hsz2);obtain ⟨e0,e1,e2,e3,e4⟩:=zU hK3.box;obtain ⟨br,offr,capr,er,r1,r2,r3,ur,r4,r5,r6⟩:=hK3.ta.2.get (i:=a) (by have:=HL.out;omega);simp only [Value.slice.injEq] at er;obtain ⟨er,hz,rfl⟩:=er;clear hz r3 r4 r6;obtain ⟨bh,oh,ch,eh,q1,q2,q3,q4⟩:=hK3.hts.get (i:=a) (by omega);simp only [Value.slice.injEq] at eh;obtain ⟨eh,hz,rfl⟩:=eh;clear hz q3;obtain ⟨bb,ob,cbb,eb,p1,p2,p3,p4,p5,p6⟩:=At.get hU.at (i:=0) (by rw [HLn.out];omega);simp only [Value.slice.injEq] at eb;obtain ⟨eb,hz,rfl⟩:=eb;rw [HEd.out] at p4 p5 p6;rw [HLn.out] at p1;simp only [Nat.zero_mul,Nat.add_zero] at p4 p5 p6;subst er eh eb;clear hz p3 hb3 hU hK3 HO HP HBk HPk KW x3 HLn HEd HB;unfold maxLen at r2 q2 p2;have hln:=HL.out;generalize hs.getD a 0=y at q4 p6 HFB HFC hya;generalize (t.rows.getD a dR).whole=wh at r5 HFB HFC;rw [hln] at q1;clear hln;by_cases hm2:m=1
  ·subst hm2
   cases wh with
   | false =>
    by_cases h0:0 < y
    ·obtain ⟨n,rfl⟩:∃ n:Nat,y=n:=⟨y.toNat,by omega⟩;have HE:=Hd (HFB.out ⟨⟨rfl,rfl⟩,h0⟩);rw [Int.toNat_natCast] at HE;clear HFB HFC;go_wp2_with fail
     refine (zdx (a:Int) n (by omega) w3).mono ?_;rintro e w6 ⟨v6,us6,rfl,hO6,hP6,hb6⟩;have HU6:=Hd (hP6.1.trans (zeL (a:Int) 0 n));obtain ⟨g6,cap6,rfl⟩:=Joins.ownsRow_form hO6 (by rw [HU6.out];omega);rw [HU6.out] at hO6 ⊢;have hO3':=z6n HO3.out hb6;have HP6':=Hd (HP3.out.kept hb6);have HB6:=Hd (zh HB3.out hb6);have HO6:=Hd hO6;have HP6:=Hd hP6;have hs6:=hb6.size;clear hb6 hP6 HO3 HP3 HB3;go_wp2_with (at_builtin;refine wpList_append_own _ rfl _ _ 45 rfl w5.heap.size 73 i0 _ 1 24 Tryz.underlying45 hi0 hz0 hz1 hz2 rfl (by decide) _ _ _ rfl hO3' ⟨g6,0,none⟩ n cap6 us6 rfl (by rw [HU6.out];omega) ?c1 ?c2 ?c3 ?c4 ?c5 ?_)
     case c1=>exact zhx HO6.out
     case c2=>exact HP6.out.cell1
     case c3=>unfold maxLen;omega
     case c4=>omega
     case c5=>omega
     intro v' w4 hown' hgrow' _;have HB4:=Hd (HB6.out.grown hgrow' (by omega) (fun b hb=>(hO3'.lt b hb).1))
     have HP4:Hid (zZ w4 w5.heap.size (us ++ us6) (z18 t hs L (k+1))):=Hd (by
      rw [z18,HA.out,HA2.out,HE.out];exact (HP6'.out.grown hO3' hgrow').app ((HP6.out.base (by omega)).grown hO3' hgrow'))
     have HO4:Hid (w4.ownsRow w5.heap.size 73 1 v' (us ++ us6).length (us ++ us6)):=Hd (by rw [List.length_append,HU6.out];exact hown');obtain ⟨g',cap',rfl⟩:=Joins.ownsRow_form hown' (by omega);clear hown' hgrow' hO3' HB6 HP6 HP6' HO6 HU HE e0 e1 e2 e3 e4;go_wp2;go_roundw
     case rel=>exact ⟨k+1,_,_,by omega,by go_num,rfl,HO4,HP4,HB4⟩
     case measure=>simp [intOf];omega
    ·have HE:=Hd (HFC.out (fun h=>h0 h.2));clear HFB HFC;go_wp2_with (at_builtin;refine wpList_append_own _ rfl _ _ 45 rfl w5.heap.size 73 i0 _ 1 24 Tryz.underlying45 hi0 hz0 hz1 hz2 rfl (by decide) _ _ _ rfl (HO3.out.alloc _) ⟨w3.heap.size,0,none⟩ 1 1 [.slice (some ⟨bb,ob,none⟩) 1 cb] rfl rfl ?c1 ?c2 ?c3 ?c4 ?c5 ?_)
     case c1=>exact z0D (zj w3 (.cells #[.slice (some ⟨bb,ob,none⟩) 1 cb] 73))
     case c2=>simp [Value.oneCell']
     case c3=>unfold maxLen;omega
     case c4=>omega
     case c5=>simp;omega
     intro v' w4 hown' hgrow' _;have KA:=ze (Below.refl w3.heap.size w3) (.cells #[.slice (some ⟨bb,ob,none⟩) 1 cb] 73);have hOA:=HO3.out.alloc (.cells #[.slice (some ⟨bb,ob,none⟩) 1 cb] 73);have HB4:=Hd ((ze HB3.out (.cells #[.slice (some ⟨bb,ob,none⟩) 1 cb] 73)).grown hgrow' (by simp;omega) (fun b hb=>(hOA.lt b hb).1))
     have HP4:Hid (zZ w4 w5.heap.size (us ++ [.slice (some ⟨bb,ob,none⟩) 1 cb]) (z18 t hs L (k+1))):=Hd (by
      rw [z18,HA.out,HA2.out,HE.out];exact ((HP3.out.kept KA).grown hOA hgrow').app (zZ.one ((HU.out.kept KA).grown hOA hgrow')))
     have HO4:Hid (w4.ownsRow w5.heap.size 73 1 v' (us ++ [(Value.slice (some ⟨bb,ob,none⟩) 1 cb)]).length (us ++ [(Value.slice (some ⟨bb,ob,none⟩) 1 cb)])):=Hd (by rw [List.length_append];exact hown');obtain ⟨g',cap',rfl⟩:=Joins.ownsRow_form hown' (by omega);clear hown' hgrow' HO3 HB3 HP3 hOA KA HU HE e0 e1 e2 e3 e4;go_wp2;go_roundw
     case rel=>exact ⟨k+1,_,_,by omega,by go_num,rfl,HO4,HP4,HB4⟩
     case measure=>simp [intOf];omega
   | true =>
    have HE:=Hd (HFC.out (fun h=>by cases h.1.2));clear HFB HFC;go_wp2_with (at_builtin;refine wpList_append_own _ rfl _ _ 45 rfl w5.heap.size 73 i0 _ 1 24 Tryz.underlying45 hi0 hz0 hz1 hz2 rfl (by decide) _ _ _ rfl (HO3.out.alloc _) ⟨w3.heap.size,0,none⟩ 1 1 [.slice (some ⟨bb,ob,none⟩) 1 cb] rfl rfl ?c1 ?c2 ?c3 ?c4 ?c5 ?_)
    case c1=>exact z0D (zj w3 (.cells #[.slice (some ⟨bb,ob,none⟩) 1 cb] 73))
    case c2=>simp [Value.oneCell']
    case c3=>unfold maxLen;omega
    case c4=>omega
    case c5=>simp;omega
    intro v' w4 hown' hgrow' _;have KA:=ze (Below.refl w3.heap.size w3) (.cells #[.slice (some ⟨bb,ob,none⟩) 1 cb] 73);have hOA:=HO3.out.alloc (.cells #[.slice (some ⟨bb,ob,none⟩) 1 cb] 73);have HB4:=Hd ((ze HB3.out (.cells #[.slice (some ⟨bb,ob,none⟩) 1 cb] 73)).grown hgrow' (by simp;omega) (fun b hb=>(hOA.lt b hb).1))
    have HP4:Hid (zZ w4 w5.heap.size (us ++ [.slice (some ⟨bb,ob,none⟩) 1 cb]) (z18 t hs L (k+1))):=Hd (by
     rw [z18,HA.out,HA2.out,HE.out];exact ((HP3.out.kept KA).grown hOA hgrow').app (zZ.one ((HU.out.kept KA).grown hOA hgrow')))
    have HO4:Hid (w4.ownsRow w5.heap.size 73 1 v' (us ++ [(Value.slice (some ⟨bb,ob,none⟩) 1 cb)]).length (us ++ [(Value.slice (some ⟨bb,ob,none⟩) 1 cb)])):=Hd (by rw [List.length_append];exact hown');obtain ⟨g',cap',rfl⟩:=Joins.ownsRow_form hown' (by omega);clear hown' hgrow' HO3 HB3 HP3 hOA KA HU HE e0 e1 e2 e3 e4;go_wp2;go_roundw
    case rel=>exact ⟨k+1,_,_,by omega,by go_num,rfl,HO4,HP4,HB4⟩
    case measure=>simp [intOf];omega
  ·have HE:=Hd (HFC.out (fun h=>hm2 h.1.1));have hme:((m:Int) == 1)=false:=beq_eq_false_iff_ne.2 (by omega);clear HFB HFC;go_wp2_with (at_builtin;refine wpList_append_own _ rfl _ _ 45 rfl w5.heap.size 73 i0 _ 1 24 Tryz.underlying45 hi0 hz0 hz1 hz2 rfl (by decide) _ _ _ rfl (HO3.out.alloc _) ⟨w3.heap.size,0,none⟩ 1 1 [.slice (some ⟨bb,ob,none⟩) m cb] rfl rfl ?c1 ?c2 ?c3 ?c4 ?c5 ?_)
   case c1=>exact z0D (zj w3 (.cells #[.slice (some ⟨bb,ob,none⟩) m cb] 73))
   case c2=>simp [Value.oneCell']
   case c3=>unfold maxLen;omega
   case c4=>omega
   case c5=>simp;omega
   intro v' w4 hown' hgrow' _;have KA:=ze (Below.refl w3.heap.size w3) (.cells #[.slice (some ⟨bb,ob,none⟩) m cb] 73);have hOA:=HO3.out.alloc (.cells #[.slice (some ⟨bb,ob,none⟩) m cb] 73);have HB4:=Hd ((ze HB3.out (.cells #[.slice (some ⟨bb,ob,none⟩) m cb] 73)).grown hgrow' (by simp;omega) (fun b hb=>(hOA.lt b hb).1))
   have HP4:Hid (zZ w4 w5.heap.size (us ++ [.slice (some ⟨bb,ob,none⟩) m cb]) (z18 t hs L (k+1))):=Hd (by
    rw [z18,HA.out,HA2.out,HE.out];exact ((HP3.out.kept KA).grown hOA hgrow').app (zZ.one ((HU.out.kept KA).grown hOA hgrow')))
   have HO4:Hid (w4.ownsRow w5.heap.size 73 1 v' (us ++ [(Value.slice (some ⟨bb,ob,none⟩) m cb)]).length (us ++ [(Value.slice (some ⟨bb,ob,none⟩) m cb)])):=Hd (by rw [List.length_append];exact hown');obtain ⟨g',cap',rfl⟩:=Joins.ownsRow_form hown' (by omega);clear hown' hgrow' HO3 HB3 HP3 hOA KA HU HE e0 e1 e2 e3 e4;go_wp2;go_roundw
   case rel=>exact ⟨k+1,_,_,by omega,by go_num,rfl,HO4,HP4,HB4⟩
   case measure=>simp [intOf];omega
def z1x (p:GC→Int) (gap s:Int) (gs:List GC) (l:List Int):Nat→List Int
 | 0=>l
 | k+1=>if (gs.getD k dG).cols=s then z34 (z1x p gap s gs l k) (gs.getD k dG).col.toNat (gs.getD k dG).cols.toNat gap (p (gs.getD k dG)) else z1x p gap s gs l k
def z0I (p:GC→Int) (gap:Int) (gs:List GC) (l:List Int):Nat→List Int
 | 0=>l
 | s+1=>z1x p gap ((s+1:Nat):Int) gs (z0I p gap gs l s) gs.length
theorem z41 (p:GC→Int) (gap s:Int) (gs:List GC) (l:List Int):∀ k,(z1x p gap s gs l k).length=l.length
 | 0=>rfl
 | k+1=>by rw [z1x];split;rw [zbl];exact z41 p gap s gs l k;exact z41 p gap s gs l k
theorem z3p (p:GC→Int) (gap:Int) (gs:List GC) (l:List Int):∀ s,(z0I p gap gs l s).length=l.length
 | 0=>rfl
 | s+1=>by rw [z0I,z41,z3p p gap gs l s]
def zI (t:T) (x:GC):ByteArray:=((t.rows.getD x.row.toNat dR).cells.getD x.ins.toNat dC).s
structure Cel (t:T) (C:Nat) (x:GC):Prop where
 ex:∃ rn jn cn mn:Nat,x.row=rn∧x.ins=jn∧x.col=cn∧x.cols=mn∧rn < t.rows.length∧jn < (t.rows.getD rn dR).cells.length∧cn+mn≤C∧1≤mn∧mn≤4
 gap:0≤t.gap∧t.gap≤3
 rows:0≤x.rows∧x.rows≤8
theorem z2Z {t:T} (hD:z0g t):(gOf t).cells.length≤40∧∃ C:Nat,(gOf t).cols=C∧C≤88∧∀ k,k < (gOf t).cells.length→Cel t C ((gOf t).cells.getD k dG):=by
 cases h:zC t with
 | false=>rw [zcj h];exact ⟨by simp,0,rfl,by omega,fun k hk=>absurd hk (Nat.not_lt_zero _)⟩
 | true =>
  have hl:=z3E h hD;have h8:=hl.rows;have h40:=z76 hl t.rows.length
  have hg:0≤t.gap∧t.gap≤3:=by
   simp only [zC,inB,Bool.and_eq_true,decide_eq_true_eq] at h;exact h.2.2.1
  have hc:t.cols.length≤8:=by
   simp only [zC,z2c,Bool.and_eq_true,decide_eq_true_eq] at h;omega
  have hcb:=z8L hl hc;rw [z2q h];refine ⟨by show (zX t t.rows.length).length≤40;omega,(z0q (max 1 (t.cols.length:Int)) (zL t)).toNat,by show z0q (max 1 (t.cols.length:Int)) (zL t)=_;omega,by omega,fun k hk=>⟨?_,hg,?_⟩⟩
  ·have hk':k < (zL t).length:=hk;obtain ⟨r,j,hr,hj,e⟩:=(z8s hl hk').ex;have hst:=z3H hl (z2i (d:=dG) hk');have hm:=z78 (m:=max 1 (t.cols.length:Int)) (z2i (d:=dG) hk');have e1:((zL t).getD k dG).row=r:=(by rw [e];rfl);have e2:((zL t).getD k dG).ins=j:=(by rw [e];rfl);unfold z1o at hst;show ∃ rn jn cn mn:Nat,((zL t).getD k dG).row=rn∧((zL t).getD k dG).ins=jn∧((zL t).getD k dG).col=cn∧((zL t).getD k dG).cols=mn∧_;refine ⟨r,j,((zL t).getD k dG).col.toNat,((zL t).getD k dG).cols.toNat,e1,e2,by omega,by omega,hr,hj,by omega,by omega,by omega⟩
  ·have hk':k < (zL t).length:=hk;have hst:=z3H hl (z2i (d:=dG) hk');unfold z1o at hst;show 0≤((zL t).getD k dG).rows∧((zL t).getD k dG).rows≤8;omega
theorem z8u {t:T} {C:Nat} {gs:List GC} {p:GC→Int} {l:List Int} {B s:Int} (hC:∀ k,k < gs.length→Cel t C (gs.getD k dG)) (hl:l.length=C) (hp:∀ x,p x≤30) (hb:UpB l B) (hB:B+30 * gs.length≤50000):∀ k,k≤gs.length→UpB (z1x p t.gap s gs l k) (B+30 * (k:Int))
 | 0,_=>by intro i hi;have:=hb i hi;show 0≤l.getD i 0∧l.getD i 0≤_;omega
 | k+1,hk=>by
  have ih:=z8u (s:=s) hC hl hp hb hB k (by omega);have hx:=hC k (by omega);rw [z1x]
  split
  ·obtain ⟨rn,jn,cn,mn,e1,e2,e3,e4,h1,h2,h3,h4,h5⟩:=hx.ex;rw [e3,e4,Int.toNat_natCast,Int.toNat_natCast];have:=zgi ih (by omega) (by rw [z41,hl];exact h3) ⟨h4,h5⟩ hx.gap (hp (gs.getD k dG)) (c:=cn) (m:=mn);intro i hi;have:=this i hi;omega
  ·intro i hi;have:=ih i hi;omega
theorem z8v {t:T} {C:Nat} {gs:List GC} {p:GC→Int} {l:List Int} (hC:∀ k,k < gs.length→Cel t C (gs.getD k dG)) (h40:gs.length≤40) (hl:l.length=C) (hp:∀ x,p x≤30) (hb:UpB l 0):∀ s,s≤4→UpB (z0I p t.gap gs l s) (1200 * (s:Int))
 | 0,_=>by intro i hi;have:=hb i hi;show 0≤l.getD i 0∧l.getD i 0≤_;omega
 | s+1,hs=>by
  have ih:=z8v hC h40 hl hp hb s (by omega);have:=z8u (s:=((s+1:Nat):Int)) hC (by rw [z3p];exact hl) hp ih (by omega) gs.length (Nat.le_refl _);intro i hi;have:=this i hi;rw [z0I];omega
theorem z4S {a:Int} (h:-9223372036854775808≤a∧a≤9223372036854775807):IntKind.i64.wrap a=a:=by rw [IntKind.wrap_i64];omega
theorem zdA {cn m C:Nat} (h:cn+(m+1)≤C) (hC:C≤88):(cn:Int)≤(cn:Int)+((m:Int)+1)∧(cn:Int)+((m:Int)+1)≤(C:Int)∧(0:Int)≤(cn:Int)+((m:Int)+1)∧((cn:Int)+((m:Int)+1)).toNat=cn+(m+1)∧cn+(m+1) - cn=m+1∧¬ C=cn∧wrap64 ((cn:Int)+((m:Int)+1))=(cn:Int)+((m:Int)+1)∧IntKind.i64.wrap ((cn:Int)+((m:Int)+1))=(cn:Int)+((m:Int)+1):=by
 have e:-9223372036854775808≤(cn:Int)+((m:Int)+1)∧(cn:Int)+((m:Int)+1)≤9223372036854775807:=(by omega);exact ⟨by omega,by omega,by omega,by omega,by omega,by omega,z35 e,z4S e⟩
theorem zcG {cn m C:Nat} (h:cn+(m+1)≤C) (hC:cn+(m+1)≤88):(cn:Int)≤(cn:Int)+((m:Int)+1)∧(cn:Int)+((m:Int)+1)≤(C:Int)∧(0:Int)≤(cn:Int)+((m:Int)+1)∧((cn:Int)+((m:Int)+1)).toNat=cn+(m+1)∧cn+(m+1) - cn=m+1∧¬ C=cn∧wrap64 ((cn:Int)+((m:Int)+1))=(cn:Int)+((m:Int)+1)∧IntKind.i64.wrap ((cn:Int)+((m:Int)+1))=(cn:Int)+((m:Int)+1):=by
 have e:-9223372036854775808≤(cn:Int)+((m:Int)+1)∧(cn:Int)+((m:Int)+1)≤9223372036854775807:=(by omega);exact ⟨by omega,by omega,by omega,by omega,by omega,by omega,z35 e,z4S e⟩
theorem zgj {cn j C:Nat} (h:cn+j < C) (hC:C≤88):(0:Int)≤(cn:Int)+(j:Int)∧(cn:Int)+(j:Int) < (C:Int)∧((cn:Int)+(j:Int)).toNat=cn+j∧wrap64 ((cn:Int)+(j:Int))=(cn:Int)+(j:Int)∧IntKind.i64.wrap ((cn:Int)+(j:Int))=(cn:Int)+(j:Int):=by
 have e:-9223372036854775808≤(cn:Int)+(j:Int)∧(cn:Int)+(j:Int)≤9223372036854775807:=(by omega);exact ⟨by omega,by omega,by omega,z35 e,z4S e⟩
def zS (n:Nat):List Int:=List.replicate n 0
theorem zax (n:Nat):UpB (zS n) 0:=by
 intro i hi;simp [zS] at hi;simp [zS,List.getD,hi]
def Ws (w:World) (z gb:Nat) (ac ar:Option Addr) (cc cr:Nat) (t:T) (ag:Option Addr) (cg:Nat) (W:World):Prop :=
 Below w.heap.size w W∧TA W z ac ar cc cr t∧W.heap[w.heap.size]?=some (.cells #[.slice ac t.cols.length cc,.int .i64 t.head,.int .i64 t.foot,.slice ar t.rows.length cr,.int .i64 t.gap] 26)∧z1I W w.heap.size (.slice ag (gOf t).cells.length cg) (gOf t).cells∧W.heap[gb]?=some (.cells #[.int .i64 (gOf t).rows,.int .i64 (gOf t).cols,.slice ag (gOf t).cells.length cg] 63)
theorem Ws.kept {w W W':World} {z gb:Nat} {ac ar ag:Option Addr} {cc cr cg:Nat} {t:T} (h:Ws w z gb ac ar cc cr t ag cg W) (hb:Below W.heap.size W W'):Ws w z gb ac ar cc cr t ag cg W' :=
 ⟨h.1.trans (hb.mono h.1.size),h.2.1.kept hb,(hb.block _ (bL h.2.2.1)).trans h.2.2.1,h.2.2.2.1.kept hb,(hb.block gb (bL h.2.2.2.2)).trans h.2.2.2.2⟩
theorem Ws.at {w W:World} {z gb:Nat} {ac ar ag:Option Addr} {cc cr cg:Nat} {t:T} (h:Ws w z gb ac ar cc cr t ag cg W):W.cell? ⟨w.heap.size,3,none⟩=some (.slice ar t.rows.length cr)∧W.cell? ⟨w.heap.size,4,none⟩=some (.int .i64 t.gap)∧W.cell? ⟨gb,1,none⟩=some (.int .i64 (gOf t).cols)∧W.cell? ⟨gb,2,none⟩=some (.slice ag (gOf t).cells.length cg) :=
 ⟨zf h.2.2.1,zf h.2.2.1,zf h.2.2.2.2,zf h.2.2.2.2⟩
theorem zgk {L:List Int} {B:Int} (hub:UpB L B) (hB:B≤50000) {cn m C:Nat} (hll:L.length=C) (h3:cn+m≤C) (hm:m≤4):(z00 L cn m).all wtB=true∧(0≤(z00 L cn m).sum∧(z00 L cn m).sum≤200000)∧(z00 L cn m).length=m:=by
 have hc:cn+m≤L.length:=(by omega);have hb:∀ x ∈ z00 L cn m,0≤x∧x≤50000:=fun x hx=>by have:=hub.mem (z6d hx);omega
 have hs:=z5e hb;rw [z1K hc] at hs;refine ⟨?_,by omega,z1K hc⟩;rw [List.all_eq_true];intro x hx;have:=hb x hx;simp only [wtB,decide_eq_true_eq];omega
theorem zgl {gap:Int} (hg:0≤gap∧gap≤3) {m:Nat} (hm:m < 4):0≤gap * (m:Int)∧gap * (m:Int)≤9:=⟨Int.mul_nonneg hg.1 (by omega),Int.le_trans (Int.mul_le_mul hg.2 (show (m:Int)≤3 by omega) (by omega) (by omega)) (by omega)⟩
def zcH (x:GC) (l:List ByteArray):z0F:=(x.row.toNat,x.rows.toNat,(l.length:Int))
def rcs (gs:List GC) (ls:List (List ByteArray)):List z0F:=List.zipWith zcH gs ls
theorem zay {gs:List GC} {ls:List (List ByteArray)} (h:ls.length=gs.length):(rcs gs ls).length=gs.length:=by rw [rcs,List.length_zipWith,h,Nat.min_self]
theorem z8w {gs:List GC} {ls:List (List ByteArray)} (h:ls.length=gs.length) {k:Nat} (hk:k < gs.length):(rcs gs ls)[k]?=some (zcH (gs.getD k dG) (ls.getD k [])):=by
 have hk2:k < ls.length:=(by omega);simp [rcs,List.getElem?_zipWith,List.getD,hk,hk2]
theorem zeg {gs:List GC} {ls:List (List ByteArray)} (h:ls.length=gs.length) {p:z0F→Prop} (hp:∀ k,k < gs.length→p (zcH (gs.getD k dG) (ls.getD k []))):∀ c ∈ rcs gs ls,p c:=by
 intro c hc;obtain ⟨k,hk,e⟩:=List.mem_iff_getElem.mp hc;have hk2:k < gs.length:=(by rw [zay h] at hk;exact hk);have:=z8w h hk2;rw [List.getElem?_eq_getElem hk,e] at this;rw [Option.some.inj this];exact hp k hk2
def z3c (cs:List z0F) (r k:Nat):Int:=(cs.take k).foldl (z1M (z0b cs r)) 0
def hsL (cs:List z0F) (R r k:Nat):List Int:=z0b cs r ++ (z3c cs r k :: zS (R - (r+1)))
theorem z8x (cs:List z0F) {R r:Nat} (k:Nat) (h:r < R):(hsL cs R r k).length=R:=by
 simp [hsL,z0Y,zS];omega
theorem zcI (cs:List z0F) {R r:Nat} (h:r < R):z0b cs r ++ zS (R - r)=hsL cs R r 0:=by
 rw [hsL,show R - r=(R - (r+1))+1 by omega,zS,List.replicate_succ];rfl
theorem zaz (cs:List z0F) (R r:Nat):hsL cs R r cs.length=z0b cs (r+1) ++ zS (R - (r+1)):=by
 rw [hsL,z3c,List.take_length,z0b,List.append_assoc];rfl
theorem zeh (cs:List z0F) (R r k:Nat):(hsL cs R r k).getD r 0=z3c cs r k:=by
 rw [hsL,List.getD_eq_getElem?_getD,List.getElem?_append_right (by rw [z0Y];exact Nat.le_refl _),z0Y,Nat.sub_self];rfl
theorem ziU (cs:List z0F) (R r k:Nat) (y:Int):(hsL cs R r k).set r y=z0b cs r ++ (y :: zS (R - (r+1))):=by
 rw [hsL,List.set_append_right _ _ (by rw [z0Y];exact Nat.le_refl _),z0Y,Nat.sub_self];rfl
theorem zcJ {cs:List z0F} {r k:Nat} {c:z0F} (h:cs[k]?=some c):z3c cs r (k+1)=z1M (z0b cs r) (z3c cs r k) c:=by
 rw [z3c,List.take_add_one,h,List.foldl_append];rfl
theorem zcK {cs:List z0F} {R r k:Nat} {c:z0F} (h:cs[k]?=some c) (he:c.1+c.2.1 ≠ r+1):hsL cs R r (k+1)=hsL cs R r k:=by
 rw [hsL,zcJ h,z1M,if_neg (by rw [z0Y];exact he),hsL]
theorem zcL {cs:List z0F} {R r k:Nat} {c:z0F} (h:cs[k]?=some c) (he:c.1+c.2.1=r+1):hsL cs R r (k+1)=(hsL cs R r k).set r (max (z3c cs r k) (c.2.2 - ((z0b cs r).sum - zF (z0b cs r) c.1))):=by
 rw [ziU,hsL,zcJ h,z1M,if_pos (by rw [z0Y];exact he)]
theorem ziV (cs:List z0F) {R r:Nat} (k:Nat) {a:Nat} (ha:a≤r):(z00 (hsL cs R r k) a (r - a)).sum=(z0b cs r).sum - zF (z0b cs r) a:=by
 have h1:z00 (hsL cs R r k) a (r - a)=(z0b cs r).drop a:=by
  rw [z00,hsL,List.drop_append_of_le_length (by rw [z0Y];exact ha),List.take_append_of_le_length (by rw [List.length_drop,z0Y];exact Nat.le_refl _),List.take_of_length_le (by rw [List.length_drop,z0Y];exact Nat.le_refl _)]
 have h2:(z0b cs r).sum=((z0b cs r).take a).sum+((z0b cs r).drop a).sum:=(by rw [← List.sum_append,List.take_append_drop]);rw [h1,zF];omega
theorem z6s {cs:List z0F} {M:Int} (hM:0≤M) (hc:∀ c ∈ cs,c.2.2≤M) (r k:Nat):0≤z3c cs r k∧z3c cs r k≤M:=by
 refine ⟨zat _ _ 0,zcw _ _ 0 (fun c h2=>?_) hM⟩;have h3:=zau (z5a cs r) c.1;have h4:=hc c (List.mem_of_mem_take h2);omega
theorem zgm {cs:List z0F} {M:Int} (hM:0≤M) (hc:∀ c ∈ cs,c.2.2≤M) (R r k:Nat):∀ x ∈ hsL cs R r k,0≤x∧x≤M:=by
 intro x hx
 rcases List.mem_append.mp hx with h | h
 ·exact ⟨z5a cs r x h,z7b hM cs hc r x h⟩
 ·rcases List.mem_cons.mp h with rfl | h
  ·exact z6s hM hc r k
  ·have:=List.eq_of_mem_replicate h;omega
theorem zaA:∀ {l:List Int},(∀ x ∈ l,0≤x∧x≤1000)→l.sum≤1000 * (l.length:Int)
 | [],_=>by simp
 | y :: l,h=>by
  have h1:=h y (List.mem_cons_self ..);have h2:=zaA (l:=l) (fun x hx=>h x (List.mem_cons_of_mem _ hx));simp only [List.sum_cons,List.length_cons];omega
theorem zcM {cs:List z0F} (hc:∀ c ∈ cs,c.2.2≤1000) {R r k a:Nat} (hr:r < R) (hR:R≤88) (ha:a≤r):(z00 (hsL cs R r k) a (r - a)).all wtB=true∧(0≤(z00 (hsL cs R r k) a (r - a)).sum∧(z00 (hsL cs R r k) a (r - a)).sum≤88000)∧(z00 (hsL cs R r k) a (r - a)).length=r - a:=by
 have hl:(z00 (hsL cs R r k) a (r - a)).length=r - a:=z1K (by rw [z8x cs k hr];omega);have hb:∀ x ∈ z00 (hsL cs R r k) a (r - a),0≤x∧x≤1000:=fun x hx=>zgm (by omega) hc R r k x (z6d hx);have h1:=zcx (fun x hx=>(hb x hx).1);have h2:=zaA hb;refine ⟨?_,⟨h1,by rw [hl] at h2;omega⟩,hl⟩;rw [List.all_eq_true];intro x hx;have:=hb x hx;unfold wtB;exact decide_eq_true (by omega)
theorem zjx:(Tryz.prog.info? 9).map (fun i=>(i.zero,i.size,i.bytes))=some (some (Value.string ⟨#[]⟩),1,16):=by kernel_rfl
theorem zcO {s:ByteArray} {j k:Nat} (hj:j≤k) (hk:k < s.size):s.extract j k ++ ⟨#[s[k]]⟩=s.extract j (k+1):=by
 apply Go.WideShapes.bytes_inj;rw [Joins.data_append,ByteArray.data_extract,ByteArray.data_extract];have hk':k < s.data.size:=hk;rw [Array.toList_extract,Array.toList_extract];have e:s[k]=s.data.toList[k]'(by simpa using hk'):=rfl;rw [e];simp only [List.extract_eq_take_drop];rw [show k+1 - j=(k - j)+1 by omega,List.take_succ_eq_append_getElem (by rw [List.length_drop];simp;omega),List.getElem_drop];simp [show j+(k - j)=k by omega]
theorem ziY (s:ByteArray) (hok:z0k s=true) (hz:0 < s.size) (w:World) :
  Calls Tryz.prog 143 #[.string s] w fun e w'=>∃ v,e=.returned v∧w'.ownsRow w.heap.size 9 1 v (z0m s 0).length ((z0m s 0).map Value.string)∧Below w.heap.size w w':=by
 obtain ⟨i0,hi,hz0,hz1,hz2⟩:=info_parts zjx;have h30:s.size≤30:=((z2t s).1 hok).1;go_enter Tryz.func143,Tryz.ntmps143;go_wp2_with fail
 go_loopw [3,4,5] (fun o c i W=>∃ (k j:Nat) (out:List ByteArray),k≤s.size∧i=.int .i64 k∧c=.string (s.extract j k)∧j≤k∧j < s.size∧Hid (∀ m,j≤m→m < k→ch s m ≠ 32)∧Hid (z6t s j)∧Hid (z0m s 0=out ++ z0m s j)∧Hid (W.ownsRow w.heap.size 9 1 o out.length (out.map Value.string))∧Hid (Below w.heap.size w W)) (fun _ _ i _=>s.size - (intOf i).toNat)
 case atStart=>exact ⟨0,0,[],Nat.zero_le _,rfl,congrArg Value.string (by rw [ByteArray.extract_same];rfl),Nat.le_refl _,hz,fun m h1 h2=>absurd h2 (Nat.not_lt_zero _),z7i hok,(List.nil_append _).symm,World.ownsRow_made w #[] 0 (Nat.le_refl _) (Nat.zero_le _) rfl,ze (Below.refl _ _) _⟩
 case round =>
  obtain ⟨k,j,out,hk,rfl,rfl,hj,hjk,HN,HS,HO,HR,HB⟩:=hrel;have hol:out.length≤s.size:=(by have:=z5C s 0;rw [HO.out] at this;simp at this;omega);by_cases hlt:k < s.size
  ·have HC:Hid (ch s k=(s[k].toNat:Int)):=z9o hlt;by_cases hc:(s[k].toNat:Int)=32
   ·have hc':((s[k].toNat:Int) == 32)=true:=beq_iff_eq.2 hc;go_wp2_with (at_builtin;refine wpList_append_own _ rfl _ _ 119 rfl w.heap.size 9 i0 (.string ⟨#[]⟩) 1 16 Tryz.underlying119 hi hz0 hz1 hz2 rfl (by decide) _ _ _ rfl (HR.out.alloc _) ⟨wr.heap.size,0,none⟩ 1 1 [.string (s.extract j k)] rfl rfl ?c1 ?c2 ?c3 ?c4 ?c5 ?_)
    case c1 =>
     intro i u hi
     match i,hi with
     | 0,hi=>simp at hi;subst hi;simp [Addr.add]
    case c2=>intro u hu;simp at hu;subst hu;rfl
    case c3=>unfold maxLen;omega
    case c4=>omega
    case c5=>have:=HB.out.size;simp;omega
    intro v' w2 hown' hgrow' _;have HB2:=Hd ((ze HB.out (.cells #[.string (s.extract j k)] 9)).grown hgrow' (by have:=HB.out.size;simp;omega) (fun b hb=>(HR.out.lt b hb).1));have HE:Hid (z0L s j=k):=zaB HN.out hj (Nat.le_of_lt hlt) (fun _=>HC.out.trans hc)
    have hk1:k+1 < s.size:=by
     have hg:=((z2t s).1 hok).2 k hlt;simp [z1m,HC.out.trans hc] at hg;omega
    have HW2:Hid (z0m s 0=(out ++ [s.extract j k]) ++ z0m s (k+1)):=by
     show _=_;rw [HO.out,z3P hjk,HE.out];simp
    have HS2:Hid (z6t s (k+1)):=by
     have:=(z7j hok hjk HS.out).2.2.1;rw [HE.out] at this;exact this
    have HR2:=Hd hown';obtain ⟨g',cap',rfl⟩:=Joins.ownsRow_form hown' (by omega);clear hown' hgrow' HR HB;go_wp2;go_roundw
    case rel=>exact ⟨k+1,k+1,out ++ [s.extract j k],by omega,by go_num,congrArg Value.string (by rw [ByteArray.extract_same];rfl),Nat.le_refl _,hk1,fun m h1 h2=>absurd h2 (by omega),HS2,HW2,by rw [List.length_append,List.map_append];exact HR2,HB2⟩
    case measure=>simp [intOf];omega
   ·have hc':((s[k].toNat:Int) == 32)=false:=beq_eq_false_iff_ne.2 hc
    have hcv:(convert 22 9 (.slice (some ⟨wr.heap.size,0,none⟩) 1 1)).run Tryz.prog (wr.alloc (.cells #[.int .u8 (s[k].toNat:Int)] 5))=.ok (.string ⟨#[s[k]]⟩) (wr.alloc (.cells #[.int .u8 (s[k].toNat:Int)] 5)) :=
     run_convert_bytes_back _ _ _ 5 ⟨wr.heap.size,0,none⟩ 1 [s[k]] Tryz.underlying22 Tryz.underlying5 Tryz.underlying9 (fun i hi=>by
      match i,hi with
      | 0,_=>simp [Addr.add])
    have hz1:¬ 9223372036854775807 < (s.extract j k).size+1:=(by rw [ByteArray.size_extract];omega);have HX:=Hd (zcO hj hlt);have hc2:ch s k ≠ 32:=fun h=>hc (HC.out.symm.trans h)
    have HN2:Hid (∀ m,j≤m→m < k+1→ch s m ≠ 32):=fun m h1 h2=>by
     rcases Nat.lt_or_eq_of_le (Nat.lt_succ_iff.1 h2) with h3 | rfl
     ·exact HN.out m h1 h3
     ·exact hc2
    go_wp2;go_roundw
    case rel=>exact ⟨k+1,j,out,by omega,by go_num,congrArg Value.string HX.out,by omega,hjk,HN2,HS,HO,HR.out.alloc _,ze HB.out _⟩
    case measure=>simp [intOf];omega
  ·obtain rfl:k=s.size:=by omega
   have HE:Hid (z0L s j=s.size):=zaB HN.out hj (Nat.le_refl _) (fun h=>absurd h (Nat.lt_irrefl _))
   have HW2:Hid (z0m s 0=out ++ [s.extract j s.size]):=by
    show _=_;rw [HO.out,z3P hjk,HE.out,z3u (by omega)]
   go_wp2_with (at_builtin;refine wpList_append_own _ rfl _ _ 119 rfl w.heap.size 9 i0 (.string ⟨#[]⟩) 1 16 Tryz.underlying119 hi hz0 hz1 hz2 rfl (by decide) _ _ _ rfl (HR.out.alloc _) ⟨wr.heap.size,0,none⟩ 1 1 [.string (s.extract j s.size)] rfl rfl ?c1 ?c2 ?c3 ?c4 ?c5 ?_)
   case c1 =>
    intro i u hi
    match i,hi with
    | 0,hi=>simp at hi;subst hi;simp [Addr.add]
   case c2=>intro u hu;simp at hu;subst hu;rfl
   case c3=>unfold maxLen;omega
   case c4=>omega
   case c5=>have:=HB.out.size;simp;omega
   intro v' w2 hown' hgrow' _;have HB2:=Hd ((ze HB.out (.cells #[.string (s.extract j s.size)] 9)).grown hgrow' (by have:=HB.out.size;simp;omega) (fun b hb=>(HR.out.lt b hb).1));have HR2:=Hd hown';obtain ⟨g',cap',rfl⟩:=Joins.ownsRow_form hown' (by omega);clear hown' hgrow' HR HB;go_wp2;go_ret;exact ⟨_,rfl,by rw [HW2.out,List.length_append,List.map_append];exact HR2.out,HB2.out⟩
theorem zgs {w:World} {B:Nat} {v:Value} {l:List ByteArray} (h:w.ownsRow B 9 1 v l.length (l.map Value.string)) {i:Nat} (hi:i < l.length) :
  ∃ g cap,v=.slice (some ⟨g,0,none⟩) l.length cap∧l.length≤cap∧cap≤maxLen∧w.cell? ⟨g,i,none⟩=some (.string l[i]):=by
 rcases h.2 with ⟨_,h0⟩ | ⟨g,cap,cur,hv,_,hg,h1,h2,h3,h4⟩
 ·omega
 ·refine ⟨g,cap,hv,h1,h2,?_⟩;rw [zf hg];have:cur.toList[i]?=(l.map Value.string)[i]?:=(by rw [← h4,List.getElem?_take_of_lt (by omega)]);rw [← Array.getElem?_toList,this];simp [hi]
theorem z85 (s:ByteArray) (hs:s.size≤maxLen) (w:World) :
  Calls Tryz.prog 119 #[.string s] w fun e w'=>∃ v,e=.returned v∧w'.ownsRow w.heap.size 9 1 v (zP s).length ((zP s).map (fun x=>Value.string x.1))∧Below w.heap.size w w':=by
 by_cases hz:s.size=0
 ·have hw0:zP s=[]:=by
   rw [zP]
   split
   ·rw [z3u (by omega)];rfl
   ·rfl
  have hnil:=z9p hz;have HW:=Hd hw0;clear hw0;go_enter Tryz.func119,Tryz.ntmps119;go_wp2
  all_goals
   go_ret;exact ⟨_,rfl,by rw [HW.out];exact World.ownsRow_made w #[] 0 (Nat.le_refl _) (Nat.zero_le _) rfl,ze (Below.refl _ _) _⟩
 ·have he:¬ s.toList=[]:=fun h=>hz (zc5 h);have he':s.toList.isEmpty=false:=(by simpa using he)
  cases hok:z0k s with
  | false =>
   have hw0:zP s=[]:=(by rw [zP,if_neg (by rw [hok];simp)]);go_enter Tryz.func119,Tryz.ntmps119;have HW:=Hd hw0;clear hw0;go_wp2_with (go_at_call 72;refine (z2A s w hs).mono ?_;rintro e w' ⟨rfl,rfl⟩;rw [hok])
   go_ret;exact ⟨_,rfl,by rw [HW.out];exact World.ownsRow_made w' #[] 0 (Nat.le_refl _) (Nat.zero_le _) rfl,ze (Below.refl _ _) _⟩
  | true =>
   have hp:0 < s.size:=(by omega);go_enter Tryz.func119,Tryz.ntmps119
   go_wp2_with (first
    | (go_at_call 72;refine (z2A s _ hs).mono ?_;rintro e w' ⟨rfl,rfl⟩;rw [hok])
    | (go_at_call 143;refine (ziY s hok hp _).mono ?_;rintro e w' ⟨v,rfl,hv,hb⟩))
   go_ret;exact ⟨_,rfl,by rw [zbo hok,zgo hok];exact hv,hb⟩
theorem zek {w:World} {B:Nat} {v:Value} {l:List W30} (h:w.ownsRow B 9 1 v l.length (l.map (fun x=>Value.string x.1))) {i:Nat} (hi:i < l.length) :
  ∃ g cap,v=.slice (some ⟨g,0,none⟩) l.length cap∧l.length≤cap∧cap≤maxLen∧w.cell? ⟨g,i,none⟩=some (.string l[i].1):=by
 have e:l.map (fun x=>Value.string x.1)=(l.map (fun x=>x.1)).map Value.string:=(by rw [List.map_map];rfl);have el:l.length=(l.map (fun x:W30=>x.1)).length:=(List.length_map ..).symm;rw [e,el] at h;obtain ⟨g,cap,h1,h2,h3,h4⟩:=zgs h (i:=i) (by rw [List.length_map];exact hi);refine ⟨g,cap,by rw [el];exact h1,by rw [el];exact h2,h3,?_⟩;rw [h4];simp
theorem z9R {w:World} {B:Nat} {v:Value} {l:List W30} (h:w.ownsRow B 9 1 v l.length (l.map (fun x=>Value.string x.1))):∃ a cap,v=.slice a l.length cap:=by
 rcases h.2 with ⟨hv,h0⟩ | ⟨g,cap,cur,hv,_⟩
 ·exact ⟨none,0,by rw [h0];exact hv⟩
 ·exact ⟨_,_,hv⟩
theorem zjy:(Tryz.prog.info? 9).map (fun i=>(i.zero,i.size,i.bytes))=some (some (Value.string ⟨#[]⟩),1,16):=by kernel_rfl
def z5f (st:List ByteArray × ByteArray):Prop:=st.2.size=0→st.1=[]
theorem z86 (q:Int) (st:List ByteArray × ByteArray) (x:W30):z5f (z02 q st x.1):=by
 have hx:=x.2.1;intro h0;unfold z02 at h0 ⊢;by_cases h1:0 < st.2.size
 ·by_cases h2:q < (st.2.size:Int)+1+x.1.size
  ·rw [if_pos h1,if_pos h2] at h0;dsimp only at h0;omega
  ·rw [if_pos h1,if_neg h2] at h0;dsimp only at h0;rw [ByteArray.size_append] at h0;omega
 ·rw [if_neg h1] at h0;dsimp only at h0;omega
theorem zcP (q:Int) (ws:List W30):z5f (z15 q ws):=by
 suffices h:∀ (l:List W30) (st:List ByteArray × ByteArray),z5f st→z5f (l.foldl (fun st x=>z02 q st x.1) st) from h ws _ (fun _=>rfl)
 intro l
 induction l with
 | nil=>intro st h;exact h
 | cons x r ih=>intro st _;exact ih _ (z86 q st x)
def z4T (l:List ByteArray):ByteArray:=l.getD (l.length - 1) eS
theorem ziZ {q:Int} {st:List ByteArray × ByteArray} (hok:z5f st) (h:(zR st).length=0) (x:W30):zR (z02 q st x.1)=zR st ++ [x.1]:=by
 obtain ⟨lines,line⟩:=st;have h0:¬ 0 < line.size:=fun h0=>by simp [zR,h0] at h
 have hl:lines=[]:=hok (show line.size=0 by omega);subst hl;have hx:=x.2.1;simp [z02,zR,h0,hx]
theorem z9a {st:List ByteArray × ByteArray} (h:(zR st).length ≠ 0) (hok:z5f st):0 < st.2.size∧zR st=st.1 ++ [st.2]∧z4T (zR st)=st.2:=by
 obtain ⟨lines,line⟩:=st
 have h0:0 < line.size:=by
  rcases Nat.eq_zero_or_pos line.size with h0 | h0
  ·have hl:lines=[]:=hok h0;subst hl;simp [zR,h0] at h
  ·exact h0
 have e:zR (lines,line)=lines ++ [line]:=(by simp [zR,h0]);refine ⟨h0,e,?_⟩;rw [e];simp [z4T,List.getD]
theorem zgt {q:Int} {st:List ByteArray × ByteArray} (hok:z5f st) (h:(zR st).length ≠ 0) (x:W30) (hq:q < ((z4T (zR st)).size:Int)+1+x.1.size):zR (z02 q st x.1)=zR st ++ [x.1]:=by
 obtain ⟨h1,h2,h3⟩:=z9a h hok;rw [h3] at hq;have hx:=x.2.1;have e:z02 q st x.1=(st.1 ++ [st.2],x.1):=(by unfold z02;rw [if_pos h1,if_pos hq]);rw [e,h2];simp [zR,hx]
theorem zhS {q:Int} {st:List ByteArray × ByteArray} (hok:z5f st) (h:(zR st).length ≠ 0) (x:W30) (hq:¬ q < ((z4T (zR st)).size:Int)+1+x.1.size):zR (z02 q st x.1)=(zR st).set ((zR st).length - 1) (z4T (zR st) ++ ⟨#[32]⟩ ++ x.1):=by
 obtain ⟨h1,h2,h3⟩:=z9a h hok;rw [h3] at hq ⊢;have hx:=x.2.1;have e:z02 q st x.1=(st.1,st.2 ++ ⟨#[32]⟩ ++ x.1):=(by unfold z02;rw [if_pos h1,if_neg hq]);have hp:0 < (st.2 ++ ⟨#[32]⟩ ++ x.1).size:=(by rw [ByteArray.size_append];omega);rw [e,h2];simp only [zR,hp,if_true,List.length_append,List.length_cons,List.length_nil,Nat.add_sub_cancel,Nat.zero_add];rw [List.set_append_right _ _ (Nat.le_refl _)];simp
theorem zbr (q:Int) (ws:List W30):(zR (z15 q ws)).length≤ws.length+1∧(z4T (zR (z15 q ws))).size≤31 * ws.length:=by
 obtain ⟨h1,h2⟩:=z7k q ws;constructor
 ·unfold zR
  split
  ·simp;omega
  ·omega
 ·rcases Nat.eq_zero_or_pos (zR (z15 q ws)).length with h | h
  ·have:zR (z15 q ws)=[]:=List.eq_nil_of_length_eq_zero h;rw [this];simp [z4T,eS]
  ·rw [(z9a (by omega) (zcP q ws)).2.2];exact h2
theorem zgu {q:Int} {l:List W30} {k:Nat} (h:k < l.length):z15 q (l.take (k+1))=z02 q (z15 q (l.take k)) l[k].1:=by
 rw [List.take_succ_eq_append_getElem h,zbp]
theorem zcQ {w:World} {B:Nat} {v:Value} {l:List ByteArray} (h:z1y w B v l):w.ownsRow B 9 1 v l.length (l.map Value.string):=by
 refine ⟨by simp,?_⟩
 rcases h with ⟨hv,rfl⟩ | ⟨g,cap,cur,hv,hb,hg,h1,h2,h3,h4⟩
 ·exact Or.inl ⟨hv,rfl⟩
 ·refine Or.inr ⟨g,cap,cur,hv,hb,hg,h1,h2,by omega,?_⟩;apply List.ext_getElem?;intro i;rw [Nat.mul_one];by_cases hi:i < l.length
  ·rw [List.getElem?_take_of_lt hi,Array.getElem?_toList,h4 i hi];simp [List.getD,hi]
  ·rw [List.getElem?_eq_none (by simp;omega),List.getElem?_eq_none (by simp;omega)]
def zk6:List ByteArray→ByteArray
 | []=>⟨#[]⟩
 | [x]=>x
 | x :: y :: r=>x ++ ⟨#[32]⟩ ++ zk6 (y :: r)
def zaC (a b:List ByteArray × ByteArray):Prop:=(zR a).length < (zR b).length∨(zR a).length=(zR b).length∧a.2.size≤b.2.size
theorem zaD {q:Int} {st:List ByteArray × ByteArray} (h:¬ 0 < st.2.size) (x:W30):(zR (z02 q st x.1)).length=(zR st).length+1∧(z02 q st x.1).2.size=x.1.size:=by
 have hx:=x.2.1;have e:z02 q st x.1=(st.1,x.1):=(by unfold z02;rw [if_neg h]);rw [e];simp [zR,h,hx]
theorem z5A {q:Int} {st:List ByteArray × ByteArray} (h:0 < st.2.size) (x:W30) (hq:q < (st.2.size:Int)+1+x.1.size):(zR (z02 q st x.1)).length=(zR st).length+1∧(z02 q st x.1).2.size=x.1.size:=by
 have hx:=x.2.1;have e:z02 q st x.1=(st.1 ++ [st.2],x.1):=(by unfold z02;rw [if_pos h,if_pos hq]);rw [e];simp [zR,h,hx]
theorem z6e {q:Int} {st:List ByteArray × ByteArray} (h:0 < st.2.size) (x:W30) (hq:¬ q < (st.2.size:Int)+1+x.1.size):(zR (z02 q st x.1)).length=(zR st).length∧(z02 q st x.1).2.size=st.2.size+1+x.1.size:=by
 have e:z02 q st x.1=(st.1,st.2 ++ ⟨#[32]⟩ ++ x.1):=(by unfold z02;rw [if_pos h,if_neg hq]);have hz:(st.2 ++ ⟨#[32]⟩ ++ x.1).size=st.2.size+1+x.1.size:=(by rw [ByteArray.size_append,ByteArray.size_append];rfl);rw [e];refine ⟨?_,hz⟩;have hp:0 < (st.2 ++ ⟨#[32]⟩ ++ x.1).size:=(by omega);simp only [zR,hp,h,if_true,List.length_append,List.length_cons,List.length_nil]
theorem zcS {st:List ByteArray × ByteArray} (hok:z5f st):(¬ 0 < st.2.size→(zR st).length=0)∧(0 < st.2.size→0 < (zR st).length):=by
 refine ⟨fun h=>?_,fun h=>?_⟩
 ·have:st.1=[]:=hok (by omega);simp [zR,h,this]
 ·simp [zR,h]
theorem zeS {p q:Int} (hpq:p≤q) {a b:List ByteArray × ByteArray} (ha:z5f a) (hb:z5f b) (h:zaC a b) (x:W30):zaC (z02 q a x.1) (z02 p b x.1):=by
 have hx:=x.2.1;obtain ⟨za,za'⟩:=zcS ha;obtain ⟨zb,zb'⟩:=zcS hb;unfold zaC at h ⊢;by_cases h1:0 < a.2.size
 ·have c1:=za' h1
  have h2:0 < b.2.size:=by
   by_cases h2:0 < b.2.size
   ·exact h2
   ·have:=zb h2;omega
  by_cases qa:q < (a.2.size:Int)+1+x.1.size
  ·obtain ⟨e1,e2⟩:=z5A h1 x qa;by_cases qb:p < (b.2.size:Int)+1+x.1.size
   ·obtain ⟨e3,e4⟩:=z5A h2 x qb;omega
   ·obtain ⟨e3,e4⟩:=z6e h2 x qb;omega
  ·obtain ⟨e1,e2⟩:=z6e h1 x qa;by_cases qb:p < (b.2.size:Int)+1+x.1.size
   ·obtain ⟨e3,e4⟩:=z5A h2 x qb;omega
   ·obtain ⟨e3,e4⟩:=z6e h2 x qb;omega
 ·have c1:=za h1;obtain ⟨e1,e2⟩:=zaD (q:=q) h1 x;by_cases h2:0 < b.2.size
  ·have:=zb' h2;by_cases qb:p < (b.2.size:Int)+1+x.1.size
   ·obtain ⟨e3,e4⟩:=z5A h2 x qb;omega
   ·obtain ⟨e3,e4⟩:=z6e h2 x qb;omega
  ·obtain ⟨e3,e4⟩:=zaD (q:=p) h2 x;have:=zb h2;omega
theorem zk7 {p q:Int} (hpq:p≤q) (ws:List W30):(zR (z15 q ws)).length≤(zR (z15 p ws)).length:=by
 suffices h:∀ (l:List W30) (a b:List ByteArray × ByteArray),z5f a→z5f b→zaC a b→zaC (l.foldl (fun st x=>z02 q st x.1) a) (l.foldl (fun st x=>z02 p st x.1) b) by
  have:=h ws ([],⟨#[]⟩) ([],⟨#[]⟩) (fun _=>rfl) (fun _=>rfl) (Or.inr ⟨rfl,Nat.le_refl _⟩);unfold zaC at this;have e1:z15 q ws=ws.foldl (fun st x=>z02 q st x.1) ([],⟨#[]⟩):=rfl;have e2:z15 p ws=ws.foldl (fun st x=>z02 p st x.1) ([],⟨#[]⟩):=rfl;rw [e1,e2];omega
 intro l
 induction l with
 | nil=>intro a b _ _ h;exact h
 | cons x r ih=>intro a b ha hb h;exact ih _ _ (z86 q a x) (z86 p b x) (zeS hpq ha hb h x)
theorem zj0 {q:Int} {n:Nat} (hq:q≤(n:Int)) (ws:List W30) (hw:∀ x ∈ ws,x.1.size≤n):∀ y ∈ zR (z15 q ws),y.size≤n:=by
 suffices h:∀ (l:List W30) (st:List ByteArray × ByteArray),(∀ x ∈ l,x.1.size≤n)→(∀ y ∈ st.1,y.size≤n)→st.2.size≤n→(∀ y ∈ (l.foldl (fun st x=>z02 q st x.1) st).1,y.size≤n)∧(l.foldl (fun st x=>z02 q st x.1) st).2.size≤n by
  obtain ⟨h1,h2⟩:=h ws ([],⟨#[]⟩) hw (fun y hy=>by cases hy) (Nat.zero_le _);intro y hy;unfold zR at hy
  split at hy
  ·rcases List.mem_append.1 hy with hy | hy
   ·exact h1 y hy
   ·simp at hy;subst hy;exact h2
  ·exact h1 y hy
 intro l
 induction l with
 | nil=>intro st _ h1 h2;exact ⟨h1,h2⟩
 | cons x r ih =>
  intro st hx h1 h2;have hx1:=hx x (List.mem_cons_self ..);refine ih _ (fun y hy=>hx y (List.mem_cons_of_mem _ hy)) ?_ ?_
  ·show ∀ y ∈ (z02 q st x.1).1,y.size≤n;unfold z02;by_cases c1:0 < st.2.size
   ·by_cases c2:q < (st.2.size:Int)+1+x.1.size
    ·rw [if_pos c1,if_pos c2];intro y hy
     rcases List.mem_append.1 hy with hy | hy
     ·exact h1 y hy
     ·simp at hy;subst hy;exact h2
    ·rw [if_pos c1,if_neg c2];exact h1
   ·rw [if_neg c1];exact h1
  ·show (z02 q st x.1).2.size≤n;by_cases c1:0 < st.2.size
   ·by_cases c2:q < (st.2.size:Int)+1+x.1.size
    ·rw [(z5A c1 x c2).2];exact hx1
    ·rw [(z6e c1 x c2).2];omega
   ·rw [(zaD (q:=q) c1 x).2];exact hx1
def LeL (a b:List Int):Prop:=a.length=b.length∧∀ i,i < a.length→a.getD i 0≤b.getD i 0
theorem LeL.refl (a:List Int):LeL a a:=⟨rfl,fun _ _=>Int.le_refl _⟩
theorem LeL.trans {a b c:List Int} (h:LeL a b) (k:LeL b c):LeL a c:=⟨h.1.trans k.1,fun i hi=>Int.le_trans (h.2 i hi) (k.2 i (by rw [← h.1];exact hi))⟩
theorem LeL.sub {a b:List Int} (h:LeL a b) {c m:Nat} (hc:c+m≤a.length):LeL (z00 a c m) (z00 b c m):=by
 have hb:c+m≤b.length:=(by rw [← h.1];exact hc);refine ⟨by rw [z1K hc,z1K hb],fun i hi=>?_⟩;rw [z1K hc] at hi;rw [z7h hc hi,z7h hb hi];exact h.2 _ (by omega)
theorem zel:∀ (a b:List Int),a.length=b.length→(List.zipWith (·+·) a b).sum=a.sum+b.sum
 | [],[],_=>by simp
 | [],_ :: _,h=>absurd h (by simp)
 | _ :: _,[],h=>absurd h (by simp)
 | x :: a,y :: b,h=>by
  rw [List.zipWith_cons_cons,List.sum_cons,List.sum_cons,List.sum_cons,zel a b (by simpa using h)];omega
def zkM (l:List Int) (gap:Int) (x:GC):Int:=(z00 l x.col.toNat x.cols.toNat).sum+gap * (x.cols - 1)
def z1u (ps:List (Int × Int)) (l:List Int):Nat→List Int
 | 0=>l
 | k+1=>if (sd ps k).1=1 then (z1u ps l k).set k (max ((z1u ps l k).getD k 0) (sd ps k).2) else z1u ps l k
theorem z1k (ps:List (Int × Int)) (l:List Int):∀ k,(z1u ps l k).length=l.length
 | 0=>rfl
 | k+1=>by rw [z1u];split;rw [List.length_set];exact z1k ps l k;exact z1k ps l k
theorem z2C (ps:List (Int × Int)) (l:List Int) {i:Nat}:∀ k,k≤i→(z1u ps l k).getD i 0=l.getD i 0
 | 0,_=>rfl
 | k+1,h=>by
  rw [z1u]
  split
  ·rw [← z2C ps l (i:=i) k (by omega)];simp only [List.getD,List.getElem?_set_ne (show k ≠ i by omega)]
  ·exact z2C ps l k (by omega)
def zeU (ps:List (Int × Int)) (k:Nat) (x:Int):Int:=if (sd ps k).1=1 then max x (sd ps k).2 else x
theorem zcT (ps:List (Int × Int)) (l:List Int) {i:Nat} (hi:i < l.length):∀ k,i < k→(z1u ps l k).getD i 0=zeU ps i (l.getD i 0)
 | k+1,h=>by
  rw [z1u];by_cases e:i=k
  ·subst e;rw [z2C ps l i (Nat.le_refl _)];have hl:i < (z1u ps l i).length:=(by rw [z1k];exact hi);unfold zeU
   split
   ·simp [List.getD,hl]
   ·exact z2C ps l i (Nat.le_refl _)
  ·rw [← zcT ps l hi k (by omega)]
   split
   ·simp only [List.getD,List.getElem?_set_ne (show k ≠ i by omega)]
   ·rfl
def z3d (t:T) (x:GC):Int:=(z0w (zP (zI t x)):Nat)
def zA (t:T):Nat:=(gOf t).cols.toNat
def z1U (t:T) (p:GC→Int):List Int:=z0I p t.gap (gOf t).cells (zS (zA t)) 4
def zv (t:T):List Int:=z1u t.cols (z1U t (z3d t)) (zA t)
theorem z2D (t:T) (p:GC→Int):(z1U t p).length=zA t:=by unfold z1U;rw [z3p];simp [zS]
theorem z1e (t:T):(zv t).length=zA t:=by unfold zv;rw [z1k,z2D]
theorem z43 {t:T} {C:Nat} (h:(gOf t).cols=C):zA t=C:=by unfold zA;rw [h];exact Int.toNat_natCast C
theorem z5g {t:T} (hD:z0g t) {p:GC→Int} (hp:∀ x,p x≤30):UpB (z1U t p) 4800:=by
 obtain ⟨h40,C,hgc,hC,hcel⟩:=z2Z hD;unfold z1U;rw [z43 hgc];exact z8v hcel h40 (by simp [zS]) hp (zax _) 4 (by omega)
theorem z9c {t:T} {k:Nat} (hk:k < zA t):(sd t.cols k).1=1→0≤(sd t.cols k).2∧(sd t.cols k).2≤60:=by
 intro h1
 cases h:zC t with
 | false=>unfold zA at hk;rw [zcj h] at hk;exact absurd hk (Nat.not_lt_zero _)
 | true =>
  simp only [zC,z2c,Bool.and_eq_true,List.all_eq_true] at h;by_cases hl:k < t.cols.length
  ·rw [z88 hl] at h1 ⊢;have:=h.2.2.2.1.2 (t.cols.getD k (0,0)) (by rw [show t.cols.getD k (0,0)=t.cols[k] by simp [List.getD,hl]];exact List.getElem_mem hl);simp only [z2n,decide_eq_true_eq] at this;omega
  ·rw [z9S (z2V (by omega))] at h1;simp at h1
theorem zeV {t:T} {k:Nat} (hk:k < zA t):(zv t).getD k 0=zeU t.cols k ((z1U t (z3d t)).getD k 0):=by
 unfold zv;exact zcT _ _ (by rw [z2D];exact hk) _ hk
theorem z89 (t:T) (x:GC):0≤z3d t x∧z3d t x≤30:=by
 unfold z3d;have:=z4U (zP (zI t x));omega
theorem z3Q {t:T} (hD:z0g t):UpB (zv t) 5000:=by
 intro i hi;rw [z1e] at hi;rw [zeV hi];have h1:=z5g hD (fun x=>(z89 t x).2) i (by rw [z2D];exact hi);have h2:=z9c hi;unfold zeU
 split
 ·have:=h2 (by assumption);omega
 ·omega
def z2Q (a b:List Int):Nat→List Int
 | 0=>a
 | k+1=>(z2Q a b k).set k (max (a.getD k 0) (b.getD k 0))
theorem z30 (a b:List Int):∀ k,(z2Q a b k).length=a.length
 | 0=>rfl
 | k+1=>by rw [z2Q,List.length_set];exact z30 a b k
theorem z8b (a b:List Int) {i:Nat}:∀ k,k≤i→(z2Q a b k).getD i 0=a.getD i 0
 | 0,_=>rfl
 | k+1,h=>by
  rw [z2Q,← z8b a b (i:=i) k (by omega)];simp only [List.getD,List.getElem?_set_ne (show k ≠ i by omega)]
theorem zcU (a b:List Int) {i:Nat} (hi:i < a.length):∀ k,i < k→(z2Q a b k).getD i 0=max (a.getD i 0) (b.getD i 0)
 | k+1,h=>by
  rw [z2Q];by_cases e:i=k
  ·subst e;have hl:i < (z2Q a b i).length:=(by rw [z30];exact hi);simp only [List.getD,List.getElem?_set_self hl,Option.getD_some]
  ·rw [← zcU a b hi k (by omega)];simp only [List.getD,List.getElem?_set_ne (show k ≠ i by omega)]
def z44 (t:T) (x:GC):Int:=(z2r (zI t x):Nat)
theorem z9d (t:T) (x:GC):0≤z44 t x∧z44 t x≤30:=by
 unfold z44;have:=z8a (zI t x);omega
def z1Y (t:T):List Int:=z2Q (z1U t (z44 t)) (zv t) (zA t)
theorem z5B (t:T):(z1Y t).length=zA t:=by unfold z1Y;rw [z30,z2D]
theorem zbs {t:T} {k:Nat} (hk:k < zA t):(z1Y t).getD k 0=max ((z1U t (z44 t)).getD k 0) ((zv t).getD k 0):=by
 unfold z1Y;exact zcU _ _ (by rw [z2D];exact hk) _ hk
theorem z7l {t:T} (hD:z0g t):UpB (z1Y t) 5000:=by
 intro i hi;rw [z5B] at hi;rw [zbs hi];have h1:=z5g hD (fun x=>(z9d t x).2) i (by rw [z2D];exact hi);have h2:=z3Q hD i (by rw [z1e];exact hi);omega
end Go.Proofs.YtggmjiddadjilamGreat
