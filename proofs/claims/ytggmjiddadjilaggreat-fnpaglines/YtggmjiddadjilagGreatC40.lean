/-
  PROVED HERE: the law FnPagLines returns true at every code that lies in memory.
-/
import Derived.Test.YtggmjiddadjilagGreatC39
import Derived.Test.YtggmjiddadjilagGreatC28
set_option maxRecDepth 1000000
set_option maxHeartbeats 40000000
namespace Go.Proofs.YtggmjiddadjilagGreat
open Go.RowKit Go.BigFrame
structure PlJ (w:World) (tb:Nat) (ac ar ah:Option Addr) (cc cr ch:Nat) (t:T) (x:Int) (high:List Int) (pss:List (List PgS)) (ap:Option Addr) (cp:Nat) (ok:Bool) (W3:World) (L:Nat→Bool) (W:World) (v28 v29 v30 v31 v32 v33 v34 v35 v36 v37 v38 v39 v40 v41 v42 v43 v44 v45:Value):Prop where
 f0:L 0=true→v28=.slice ap pss.length cp
 f1:L 1=true→v29=.agg #[.slice ac t.cols.length cc,.int .i64 t.head,.int .i64 t.foot,.slice ar t.rows.length cr,.int .i64 t.gap]
 f2:L 2=true→v30=.int .i64 x
 f3:L 3=true→v31=.slice ah high.length ch
 f4:L 4=true→∃ z,z1Q W z v32 pss
 f5:L 5=true→v33=.bool true
 f6:L 6=true→v34=.bool false
 f7:L 7=true→v35=.bool false
 f8:L 8=true→v36=.agg #[.slice ac t.cols.length cc,.int .i64 t.head,.int .i64 t.foot,.slice ar t.rows.length cr,.int .i64 t.gap]
 f9:L 9=true→v37=.int .i64 x
 f10:L 10=true→v38=.slice ah high.length ch
 f11:L 11=true→v39=.bool ok
 f12:L 12=true→v40=.agg #[.slice ac t.cols.length cc,.int .i64 t.head,.int .i64 t.foot,.slice ar t.rows.length cr,.int .i64 t.gap]
 f13:L 13=true→v41=.int .i64 x
 f14:L 14=true→v42=.slice ah high.length ch
 f15:L 15=true→v43=.bool ok
 f16:L 16=true→v44=.bool false
 f17:L 17=true→v45=.bool false
 b:Below W3.heap.size W3 W
theorem zfq (A:Option Addr) (len cap:Nat) (hlen:len≤1048576) (w:World) (h:z3D w A len cap) :
  Calls Tryz.prog 3 #[.slice A len cap] w fun e w'=>e=.returned (.bool true)∧Below w.heap.size w w':=by
 have hl:¬ (1048576:Int) < (len:Int):=(by omega);have hmx:Tryz.prog.follows .mixedOrders=true:=(by kernel_rfl);have HD:=Hd h;clear h;go_enter Tryz.func3,Tryz.ntmps3;go_wp2_with fail
 refine (zal _ _ _ _ HD.out).mono ?_;rintro e w1 ⟨ac,ar,cc,cr,t,x,vh,high,rfl,hD,hxb,hsm,hC1,hW1,hH1,hb1⟩;obtain ⟨ah,ch,rfl,_⟩:=At.form hH1;have KA1:=ze (Below.refl w1.heap.size w1) (.cells #[.slice ac t.cols.length cc,.int .i64 t.head,.int .i64 t.foot,.slice ar t.rows.length cr,.int .i64 t.gap] 26);have HS:Hid (SP w w1.heap.size ac ar cc cr t (.slice ah high.length ch) high (w1.alloc (.cells #[.slice ac t.cols.length cc,.int .i64 t.head,.int .i64 t.foot,.slice ar t.rows.length cr,.int .i64 t.gap] 26))):=⟨⟨hb1.alloc hb1.size _,TA.kept ⟨hC1,hW1⟩ KA1,zj _ _⟩,hH1.ints.kept KA1⟩;have HPi:=Hd (fun W (h:SP w w1.heap.size ac ar cc cr t (.slice ah high.length ch) high W)=>zdO ac ar cc cr t hD x (.slice ah high.length ch) high W h.st.2.1.1 h.st.2.1.2 h.hi);have HPs:=Hd (fun W (h:SP w w1.heap.size ac ar cc cr t (.slice ah high.length ch) high W)=>zdV ac ar cc cr t hD x (.slice ah high.length ch) high W h.st.2.1.1 h.st.2.1.2 h.hi);have HKi:=Hd (fun W (h:SP w w1.heap.size ac ar cc cr t (.slice ah high.length ch) high W)=>zbB ac ar cc cr t x (.slice ah high.length ch) high W h.st.2.1.1 h.st.2.1.2 h.hi);have HKs:=Hd (fun W (h:SP w w1.heap.size ac ar cc cr t (.slice ah high.length ch) high W)=>zbG ac ar cc cr t x (.slice ah high.length ch) high W h.st.2.1.1 h.st.2.1.2 h.hi);have HRi:=Hd (fun W (h:TA W w.heap.size ac ar cc cr t)=>z8Z ac ar cc cr t hD x W h.1 h.2);have HBF:=Hd (fun hp=>zgY hD (width:=x) (high:=high) hp);have HNo:=Hd (fun hp=>zh1 (t:=t) (width:=x) (high:=high) hp)
 have HRl:Hid (z3t t x high=true→(z0t t x).length=t.rows.length):=Hd (fun hp=>by
  unfold z3t at hp;rw [Bool.and_eq_true,Bool.and_eq_true] at hp;rw [z0t,hp.1.1,hp.1.2];exact z0O _ _)
 have HR8:Hid (z3t t x high=true→t.rows.length≤8):=Hd (fun hp=>by
  unfold z3t at hp;rw [Bool.and_eq_true,Bool.and_eq_true] at hp;exact zf0 hD hp.1.1)
 generalize z33 t x high=pss at HPi HPs HBF HNo;generalize z0t t x=rs at HRi HBF HRl;generalize z3t t x high=ok at HKi HKs HBF HNo HRl HR8;clear hC1 hW1 hH1 hb1 hD HD hxb hsm KA1;go_upto_region 4 with fail
 generalize w1.alloc (.cells #[.slice ac t.cols.length cc,.int .i64 t.head,.int .i64 t.foot,.slice ar t.rows.length cr,.int .i64 t.gap] 26)=W1 at HS ⊢;generalize w1.heap.size=tb at HS HPi HPs HKi HKs ⊢;obtain ⟨z0,z1,z2,z3,z4⟩:=HS.out.st.at;go_wp2_with fail
 refine (HPi.out _ HS.out).mono ?_;rintro e W3 ⟨v3,us,rfl,hO3,hR3,hb3⟩;have hP3:=hR3.pss hO3 (Nat.le_refl _) (Nat.le_refl _);obtain ⟨ap,cp,rfl,_⟩:=At.form hP3;have HPV:=Hd hP3;replace HS:=Hd (HS.out.kept hb3);clear hO3 hR3 hP3 hb3 z0 z1 z2 z3 z4 HPi;have hlt0:tb < W3.heap.size:=(bL HS.out.st.2.2);have KB:=Hd (fun W (h:Below W3.heap.size W3 W)=>HPs.out W (HS.out.kept h));have KI:=Hd (fun W (h:Below W3.heap.size W3 W)=>HKi.out W (HS.out.kept h));have KK:=Hd (fun W (h:Below W3.heap.size W3 W)=>HKs.out W (HS.out.kept h));clear HPs HKi;go_upto_region 5 with fail
 refine z0p (fun L act W=>∃ v28 v29 v30 v31 v32 v33 v34 v35 v36 v37 v38 v39 v40 v41 v42 v43 v44 v45:Value,act=⟨#[.slice A len cap,undef,.bool false,.pointer (some ⟨tb,0,none⟩),.int .i64 x,.slice ah high.length ch,.slice ap pss.length cp,undef,undef,undef,undef,undef,undef,undef,undef,.slice A len cap,.int .i64 len,.bool false,.tuple #[.agg #[.slice ac t.cols.length cc,.int .i64 t.head,.int .i64 t.foot,.slice ar t.rows.length cr,.int .i64 t.gap],.int .i64 x,.slice ah high.length ch],.slice A len cap,.tuple #[.agg #[.slice ac t.cols.length cc,.int .i64 t.head,.int .i64 t.foot,.slice ar t.rows.length cr,.int .i64 t.gap],.int .i64 x,.slice ah high.length ch],.agg #[.slice ac t.cols.length cc,.int .i64 t.head,.int .i64 t.foot,.slice ar t.rows.length cr,.int .i64 t.gap],.int .i64 x,.slice ah high.length ch,.agg #[.slice ac t.cols.length cc,.int .i64 t.head,.int .i64 t.foot,.slice ar t.rows.length cr,.int .i64 t.gap],.int .i64 x,.slice ah high.length ch,.slice ap pss.length cp,v28,v29,v30,v31,v32,v33,v34,v35,v36,v37,v38,v39,v40,v41,v42,v43,v44,v45,undef,undef,undef,undef,undef,undef,undef,undef,undef,undef,undef,undef,undef,undef,undef,undef,undef,undef,undef,undef,undef,undef,undef,undef,undef,undef,undef,undef,undef,undef,undef,undef,undef,undef,undef,undef,undef,undef,undef,undef,undef,undef,undef,undef,undef,undef,undef,undef,undef,undef,undef,undef,undef,undef,undef,undef,undef,undef,undef,undef,undef,undef,undef,undef,undef,undef,undef,undef,undef,undef,undef,undef,undef,undef,undef,undef,undef,undef,undef,undef,undef,undef,undef,undef,undef,undef,undef,undef,undef,undef,undef,undef,undef,undef,undef,undef,undef,undef,undef,undef,undef,undef,undef,undef,undef,undef,undef,undef,undef,undef,undef,undef,undef,undef,undef,undef,undef,undef,undef,undef,undef,undef,undef,undef,undef,undef,undef,undef,undef],[]⟩∧PlJ w tb ac ar ah cc cr ch t x high pss ap cp ok W3 L W v28 v29 v30 v31 v32 v33 v34 v35 v36 v37 v38 v39 v40 v41 v42 v43 v44 v45) hmx (by kernel_rfl) ?hs ?hd ?h0
 case h0=>exact ⟨_,_,_,_,_,_,_,_,_,_,_,_,_,_,_,_,_,_,rfl,⟨(fun h=>by cases h),(fun h=>by cases h),(fun h=>by cases h),(fun h=>by cases h),(fun h=>by cases h),(fun h=>by cases h),(fun h=>by cases h),(fun h=>by cases h),(fun h=>by cases h),(fun h=>by cases h),(fun h=>by cases h),(fun h=>by cases h),(fun h=>by cases h),(fun h=>by cases h),(fun h=>by cases h),(fun h=>by cases h),(fun h=>by cases h),(fun h=>by cases h),z1c (Below.refl _ _)⟩⟩
 case hd =>
  intro L act W hJ hall;obtain ⟨v28,v29,v30,v31,v32,v33,v34,v35,v36,v37,v38,v39,v40,v41,v42,v43,v44,v45,ha,J⟩:=hJ;subst ha;obtain rfl:=J.f17 (hall 17 (by decide));replace HS:=Hd (HS.out.kept J.b);replace HPV:=Hd (HPV.out.kept J.b);clear J hall KB KI KK hlt0;obtain ⟨z0,z1,z2,z3,z4⟩:=HS.out.st.at;have KK:=Hd (HKs.out W HS.out);clear HKs
  cases ok with
  | false =>
   obtain rfl:=HNo.out rfl;clear HNo HBF HRl HR8;go_wp2_with fail
   refine KK.out.mono ?_;rintro e w8 ⟨rfl,hb8⟩;replace HS:=Hd (HS.out.kept hb8);clear hb8 KK z0 z1 z2 z3 z4;go_wp2_with fail
   refine (zik _).mono ?_;rintro e w9 ⟨rfl,rfl⟩;go_wp2;go_ret;exact ⟨rfl,HS.out.st.1⟩
  | true =>
   obtain ⟨E,hBF⟩:=HBF.out rfl;have hRl:=HRl.out rfl;replace HR8:=Hd (HR8.out rfl);clear HNo HBF HRl;go_wp2_with fail
   refine KK.out.mono ?_;rintro e w8 ⟨rfl,hb8⟩;replace HS:=Hd (HS.out.kept hb8);replace HPV:=Hd (HPV.out.kept hb8);clear hb8 KK z0 z1 z2 z3 z4;obtain ⟨z0,z1,z2,z3,z4⟩:=HS.out.st.at;go_wp2_with fail
   refine (HRi.out _ HS.out.st.2.1).mono ?_;rintro e w9 ⟨v9,rfl,hR9,hb9⟩;obtain ⟨ax,cx,rfl⟩:=hR9.form;have HIx:=Hd hR9.at;replace HS:=Hd (HS.out.kept hb9);replace HPV:=Hd (HPV.out.kept hb9);clear hR9 hb9 z0 z1 z2 z3 z4 HRi;obtain ⟨z0,z1,z2,z3,z4⟩:=HS.out.st.at;have hEl:E≤rs.length:=(by rw [hRl];exact hBF.le);have htl:=hBF.tl;have HRd:=Hd hBF.ready;have HRn:=Hd (z5y hBF.run).2.1;have HSt:=Hd (fun (i k:Nat) (hi:i < pss.length) (hk:k < (pss.getD i []).length)=>zff hBF hi hk);have HFl:Hid (pss.flatten=[]→z34 rs ⟨t.head,0,false⟩ pss pss.length 0=⟨t.head,0,false⟩):=Hd (fun h=>by rw [zbC,h];rfl);rw [← zbC] at HRd HRn;have hR8:rs.length≤8:=(by rw [hRl];exact HR8.out);have HP0:=Hd (zfb rs ⟨t.head,0,false⟩ pss);have HPn:=Hd (fun (i k:Nat) (hk:k < (pss.getD i []).length)=>zfc (hs:=rs) (p:=⟨t.head,0,false⟩) hk);have HPp:=Hd (fun (i:Nat) (hi:i < pss.length)=>zfd (hs:=rs) (p:=⟨t.head,0,false⟩) hi);generalize hpos:z34 rs ⟨t.head,0,false⟩ pss=pos at HRd HRn HSt HFl HP0 HPn HPp;clear hpos hBF hRl HR8;obtain ⟨apf,cpf,hpe,hlp⟩:=At.form HPV.out;clear hpe apf cpf;unfold maxLen at hlp;go_upto_region 14 with fail
   clear z0 z1 z2 z3 z4;go_loopw [8,9,10,11] (fun r l s ii W=>∃ i:Nat,ii=.int .i64 (i:Int)∧i≤pss.length∧r=.int .i64 (pos i 0).row∧l=.int .i64 (pos i 0).line∧s=.bool (pos i 0).seen∧Hid (Below w9.heap.size w9 W)) (fun _ _ _ ii _=>pss.length - (intOf ii).toNat)
   case atStart=>exact ⟨0,rfl,Nat.zero_le _,by rw [HP0.out],by rw [HP0.out],by rw [HP0.out],Below.refl _ _⟩
   case round =>
    obtain ⟨i,rfl,hi,rfl,rfl,rfl,HB⟩:=hrel;by_cases hlt:i < pss.length
    case pos =>
     obtain ⟨b1,off1,cap1',u1,e1,hc11,hc12,hbl1,x0,hs1⟩:=(HPV.out.kept HB.out).get hlt;simp only [Value.slice.injEq,true_and] at e1;obtain ⟨rfl,rfl⟩:=e1;unfold maxLen at hc12;have HSi:=Hd (fun k hk=>HSt.out i k hlt hk);have HPi:=Hd (fun k hk=>HPn.out i k hk);have HPe:=Hd (HPp.out i hlt);generalize pss.getD i []=pg at hs1 HSi HPi HPe;obtain ⟨au,cu,rfl,hlu⟩:=At.form hs1;unfold maxLen at hlu;have HS1:=Hd hs1;have X0:=Hd x0;obtain ⟨W5,hW5⟩:∃ W5,W5=wr:=⟨_,rfl⟩;subst hW5;clear hs1 x0 HSt HPn HPp HRd HRn HFl HP0;go_wp2_with fail
     go_loopw [8,9,10,12] (fun r l s kk W=>∃ k:Nat,kk=.int .i64 (k:Int)∧k≤pg.length∧r=.int .i64 (pos i k).row∧l=.int .i64 (pos i k).line∧s=.bool (pos i k).seen∧Hid (Below W5.heap.size W5 W)) (fun _ _ _ kk _=>pg.length - (intOf kk).toNat)
     case atStart=>exact ⟨0,rfl,Nat.zero_le _,rfl,rfl,rfl,Below.refl _ _⟩
     case round =>
      obtain ⟨k,rfl,hk,rfl,rfl,rfl,HBq⟩:=hrel;have c1:=(HBq.out.cell (p:=⟨b1,off1+i,none⟩) hbl1).trans X0.out;by_cases hkl:k < pg.length
      case pos =>
       obtain ⟨d1,o1,cd1,f1,hd11,hd12,hdl1,p0,p1,p2⟩:=At.get (HS1.out.kept HBq.out) hkl;simp only [Value.slice.injEq,true_and] at f1;obtain ⟨rfl,rfl⟩:=f1;unfold maxLen at hd12;have hst:=HSi.out k hkl;have HNx:=Hd (HPi.out k hkl);generalize pg.getD k dP=s at p0 p1 p2 hst HNx;obtain ⟨sr,sf,st⟩:=s;simp only at p0 p1 p2;have HIq:=Hd ((HIx.out.kept HB.out).kept HBq.out);generalize pos i k=p at hst HNx;obtain ⟨pr,pl,pse⟩:=p;go_upto_region 20 with fail
       have KA:=ze (Below.refl wr.heap.size wr) (.cells #[.int .i64 sr,.int .i64 sf,.int .i64 st] 38);have hXs:=zj wr (.cells #[.int .i64 sr,.int .i64 sf,.int .i64 st] 38);have hIz:=HIq.out.kept KA;have HBz:=Hd (zh HBq.out KA);generalize wr.alloc (.cells #[.int .i64 sr,.int .i64 sf,.int .i64 st] 38)=Wz at hXs hIz HBz ⊢;generalize wr.heap.size=sb at hXs ⊢;clear p0 p1 p2 c1 KA HIq HBq;obtain ⟨s0,s1,s2⟩:=z2j hXs;have hsl:=(bL hXs);have hne2:=z0w Wz;have b0:=zi hsl s0;have b1':=zi hsl s1;have b2':=zi hsl s2
       rcases hst with hst | hst
       case' inl =>
        obtain ⟨n,e,hn,hr,hf,h1,h2,h3,nx⟩:=hst;simp only at e hr hf h1 h2 h3;subst e hr hf;rw [nx] at HNx;clear nx;obtain ⟨rb,ro,rcap,er,ra1,ra2,ra3,ra4⟩:=hIz.get (i:=n) (by omega);simp only [Value.slice.injEq,true_and] at er;obtain ⟨rfl,rfl⟩:=er;unfold maxLen at ra2;have br:=zi ra3 ra4;generalize rs.getD n 0=y at ra4 br h2 h3;have hwn:IntKind.i64.wrap ((n:Int)+1)=(n:Int)+1:=(by rw [IntKind.wrap_i64];omega);have hnn:((n:Int) == (n:Int)+1)=false:=beq_eq_false_iff_ne.2 (by omega);clear hIz hXs
        cases pse
        all_goals
         go_upto_region 23 with fail
         by_cases hfu:sf=st
         case' pos =>
          subst hfu;have h4:=h3 rfl;clear h3
         case' neg =>
          have hfu2:(sf == st)=false:=beq_eq_false_iff_ne.2 hfu;clear h3 hfu
       case' inr =>
        obtain ⟨n,m,e,em,hn,hm,hse,hl',hr,hf,h1,h2,h3,nx⟩:=hst;simp only at e hse hl' hr hf h1 h2 h3;subst e hse hl' hr hf;rw [nx] at HNx;clear nx;obtain ⟨rb,ro,rcap,er,ra1,ra2,ra3,ra4⟩:=hIz.get (i:=n) (by omega);simp only [Value.slice.injEq,true_and] at er;obtain ⟨rfl,rfl⟩:=er;obtain ⟨rb2,ro2,rcap2,er,rc1,rc2,rc3,rc4⟩:=hIz.get (i:=m) (by omega);simp only [Value.slice.injEq,Option.some.injEq,Addr.mk.injEq,true_and,and_true] at er;obtain ⟨⟨rfl,rfl⟩,rfl⟩:=er;unfold maxLen at ra2;have br:=zi rc3 rc4;generalize rs.getD n 0=y0 at ra4;generalize rs.getD m 0=y at rc4 br h2 h3;have hwn:IntKind.i64.wrap ((n:Int)+1)=(m:Int):=(by rw [IntKind.wrap_i64];omega);clear hIz hXs rc1 rc2;go_upto_region 23 with fail
        by_cases hfu:(0:Int)=st
        case' pos =>
         subst hfu;have h4:=h3 rfl;clear h3
        case' neg =>
         have hfu2:((0:Int) == st)=false:=beq_eq_false_iff_ne.2 hfu;clear h3 hfu
       all_goals
        refine zn hmx (by kernel_rfl) ?_;repeat (go_big_quiet_step (fail))
        refine wpQuiet_nil ?_;intro W7 hw';obtain ⟨⟨Wy,hW7⟩,hw''⟩:=hw';subst hw'';have HB7:=Hd (zh HBz.out hW7);have q2:=(hW7.cell hsl).trans s2;have hsl7:=Nat.lt_of_lt_of_le hsl hW7.size;clear b0 b1' b2' br hne2 hW7;go_wp2;go_roundw
        case rel=>exact ⟨k+1,by go_num,by omega,by rw [HNx.out],by rw [HNx.out],by rw [HNx.out],HB7⟩
        case measure=>simp [intOf];omega
      case neg =>
       obtain rfl:k=pg.length:=by omega
       have HB8:=Hd (zh HB.out HBq.out);go_wp2;go_roundw
       case rel=>exact ⟨i+1,by go_num,by omega,by rw [HPe.out],by rw [HPe.out],by rw [HPe.out],HB8⟩
       case measure=>simp [intOf];omega
    case neg =>
     obtain rfl:i=pss.length:=by omega
     replace HS:=Hd (HS.out.kept HB.out);have hIx:=HIx.out.kept HB.out;obtain ⟨z0,z1,z2,z3,z4⟩:=HS.out.st.at;have hwE:IntKind.i64.wrap ((t.rows.length:Int) - t.foot)=(E:Int):=(by rw [IntKind.wrap_i64];omega)
     rcases HRd.out with hp | ⟨hE1,hp⟩
     ·have hsn:pss.flatten=[]:=by
       by_cases h:pss.flatten=[]
       ·exact h
       ·have:=HRn.out h;rw [hp] at this
        cases this
      have hh:=HFl.out hsn;rw [hp] at hh;simp only [Pos.mk.injEq,and_true] at hh;have hhb:(t.head == (E:Int))=true:=beq_iff_eq.2 hh.symm;rw [hp];clear HRd HRn HFl hp hh hsn htl hIx HSt HPn HPp HP0;go_wp2;go_ret;exact ⟨rfl,HS.out.st.1⟩
     ·obtain ⟨g,rfl⟩:∃ g,E=g+1:=⟨E - 1,by omega⟩;have e1:((g+1:Nat):Int) - 1=(g:Int):=(by omega);rw [e1] at hp;simp only [Nat.add_sub_cancel] at hp;obtain ⟨rb,ro,rcap,er,ra1,ra2,ra3,ra4⟩:=hIx.get (i:=g) (by omega);simp only [Value.slice.injEq,true_and] at er;obtain ⟨rfl,rfl⟩:=er;unfold maxLen at ra2;rw [hp];generalize rs.getD g 0=y at ra4 ⊢;obtain ⟨EE,hEE⟩:∃ EE:Int,((g+1:Nat):Int)=EE:=⟨_,rfl⟩;rw [hEE] at hwE htl;have hwg:IntKind.i64.wrap (EE - 1)=(g:Int):=(by rw [IntKind.wrap_i64];omega);by_cases hh:t.head=EE
      ·have hhb:(t.head == EE)=true:=beq_iff_eq.2 hh;clear HRd HRn HFl hp htl hIx HSt HPn HPp HP0 hh hEE e1;go_wp2;go_ret;exact ⟨rfl,HS.out.st.1⟩
      ·have hhb:(t.head == EE)=false:=beq_eq_false_iff_ne.2 hh;clear HRd HRn HFl hp htl hIx HSt HPn HPp HP0 hh hEE e1;go_wp2;go_ret;exact ⟨rfl,HS.out.st.1⟩
 case hs =>
  intro L act W i o hJ hcl ho hLi haft K hK;obtain ⟨v28,v29,v30,v31,v32,v33,v34,v35,v36,v37,v38,v39,v40,v41,v42,v43,v44,v45,ha,J⟩:=hJ;subst ha
  have hi':i < 18:=by
   have:=(bL ho)
   simpa using this
  rcases (by omega:i=0∨i=1∨i=2∨i=3∨i=4∨i=5∨i=6∨i=7∨i=8∨i=9∨i=10∨i=11∨i=12∨i=13∨i=14∨i=15∨i=16∨i=17) with rfl | rfl | rfl | rfl | rfl | rfl | rfl | rfl | rfl | rfl | rfl | rfl | rfl | rfl | rfl | rfl | rfl | rfl
  all_goals
   simp only [List.getElem?_toArray,List.getElem?_cons_zero,List.getElem?_cons_succ,Option.some.injEq] at ho;subst ho;clear hi'
  ·go_simp;exact hK _ _ ⟨_,_,_,_,_,_,_,_,_,_,_,_,_,_,_,_,_,_,rfl,⟨(fun _=>rfl),uq J.f1,uq J.f2,uq J.f3,uq J.f4,uq J.f5,uq J.f6,uq J.f7,uq J.f8,uq J.f9,uq J.f10,uq J.f11,uq J.f12,uq J.f13,uq J.f14,uq J.f15,uq J.f16,uq J.f17,J.b⟩⟩
  ·obtain ⟨q0,q1,q2,q3,q4⟩:=(HS.out.kept J.b).st.at;have hl:=Nat.lt_of_lt_of_le hlt0 J.b.size;go_simp;exact hK _ _ ⟨_,_,_,_,_,_,_,_,_,_,_,_,_,_,_,_,_,_,rfl,⟨uq J.f0,(fun _=>rfl),uq J.f2,uq J.f3,uq J.f4,uq J.f5,uq J.f6,uq J.f7,uq J.f8,uq J.f9,uq J.f10,uq J.f11,uq J.f12,uq J.f13,uq J.f14,uq J.f15,uq J.f16,uq J.f17,J.b⟩⟩
  ·go_simp;exact hK _ _ ⟨_,_,_,_,_,_,_,_,_,_,_,_,_,_,_,_,_,_,rfl,⟨uq J.f0,uq J.f1,(fun _=>rfl),uq J.f3,uq J.f4,uq J.f5,uq J.f6,uq J.f7,uq J.f8,uq J.f9,uq J.f10,uq J.f11,uq J.f12,uq J.f13,uq J.f14,uq J.f15,uq J.f16,uq J.f17,J.b⟩⟩
  ·go_simp;exact hK _ _ ⟨_,_,_,_,_,_,_,_,_,_,_,_,_,_,_,_,_,_,rfl,⟨uq J.f0,uq J.f1,uq J.f2,(fun _=>rfl),uq J.f4,uq J.f5,uq J.f6,uq J.f7,uq J.f8,uq J.f9,uq J.f10,uq J.f11,uq J.f12,uq J.f13,uq J.f14,uq J.f15,uq J.f16,uq J.f17,J.b⟩⟩
  ·obtain rfl:=J.f1 (Fa haft 1);obtain rfl:=J.f2 (Fa haft 2);obtain rfl:=J.f3 (Fa haft 3);go_simp;go_wp2_with (go_at_call 7;refine (KB.out W J.b).mono ?_;rintro e W2 ⟨v,us,rfl,hO,hRp,hb⟩;have hP2:=hRp.pss hO (Nat.le_refl _) (Nat.le_refl _);clear hO hRp)
   exact ⟨_,_,_,_,_,_,_,_,_,_,_,_,_,_,_,_,_,_,rfl,⟨uq J.f0,uq J.f1,uq J.f2,uq J.f3,(fun _=>⟨_,hP2⟩),uq J.f5,uq J.f6,uq J.f7,uq J.f8,uq J.f9,uq J.f10,uq J.f11,uq J.f12,uq J.f13,uq J.f14,uq J.f15,uq J.f16,uq J.f17,zh J.b hb⟩⟩
  ·obtain rfl:=J.f0 (Fa haft 0);obtain ⟨z9,hI⟩:=J.f4 (Fa haft 4);obtain ⟨aq,cq,rfl,_⟩:=At.form hI;go_simp;go_wp2_with (go_at_call 6;refine (zdW _ _ pss W (HPV.out.kept J.b) hI).mono ?_;rintro e W2 ⟨rfl,hb⟩)
   exact ⟨_,_,_,_,_,_,_,_,_,_,_,_,_,_,_,_,_,_,rfl,⟨uq J.f0,uq J.f1,uq J.f2,uq J.f3,(fun h=>(J.f4 (un h)).elim fun z h=>⟨z,h.kept hb⟩),(fun _=>rfl),uq J.f6,uq J.f7,uq J.f8,uq J.f9,uq J.f10,uq J.f11,uq J.f12,uq J.f13,uq J.f14,uq J.f15,uq J.f16,uq J.f17,zh J.b hb⟩⟩
  ·obtain rfl:=J.f5 (Fa haft 5);go_simp;exact hK _ _ ⟨_,_,_,_,_,_,_,_,_,_,_,_,_,_,_,_,_,_,rfl,⟨uq J.f0,uq J.f1,uq J.f2,uq J.f3,uq J.f4,uq J.f5,(fun _=>rfl),uq J.f7,uq J.f8,uq J.f9,uq J.f10,uq J.f11,uq J.f12,uq J.f13,uq J.f14,uq J.f15,uq J.f16,uq J.f17,J.b⟩⟩
  ·obtain rfl:=J.f6 (Fa haft 6);go_simp;exact hK _ _ ⟨_,_,_,_,_,_,_,_,_,_,_,_,_,_,_,_,_,_,rfl,⟨uq J.f0,uq J.f1,uq J.f2,uq J.f3,uq J.f4,uq J.f5,uq J.f6,(fun _=>rfl),uq J.f8,uq J.f9,uq J.f10,uq J.f11,uq J.f12,uq J.f13,uq J.f14,uq J.f15,uq J.f16,uq J.f17,J.b⟩⟩
  ·obtain rfl:=J.f7 (haft ⟨7,.guard⟩ (by simp) rfl);obtain ⟨q0,q1,q2,q3,q4⟩:=(HS.out.kept J.b).st.at;have hl:=Nat.lt_of_lt_of_le hlt0 J.b.size;rw [if_pos (by rfl)];go_simp;exact hK _ _ ⟨_,_,_,_,_,_,_,_,_,_,_,_,_,_,_,_,_,_,rfl,⟨uq J.f0,uq J.f1,uq J.f2,uq J.f3,uq J.f4,uq J.f5,uq J.f6,uq J.f7,(fun _=>rfl),uq J.f9,uq J.f10,uq J.f11,uq J.f12,uq J.f13,uq J.f14,uq J.f15,uq J.f16,uq J.f17,J.b⟩⟩
  ·obtain rfl:=J.f7 (haft ⟨7,.guard⟩ (by simp) rfl);rw [if_pos (by rfl)];go_simp;exact hK _ _ ⟨_,_,_,_,_,_,_,_,_,_,_,_,_,_,_,_,_,_,rfl,⟨uq J.f0,uq J.f1,uq J.f2,uq J.f3,uq J.f4,uq J.f5,uq J.f6,uq J.f7,uq J.f8,(fun _=>rfl),uq J.f10,uq J.f11,uq J.f12,uq J.f13,uq J.f14,uq J.f15,uq J.f16,uq J.f17,J.b⟩⟩
  ·obtain rfl:=J.f7 (haft ⟨7,.guard⟩ (by simp) rfl);rw [if_pos (by rfl)];go_simp;exact hK _ _ ⟨_,_,_,_,_,_,_,_,_,_,_,_,_,_,_,_,_,_,rfl,⟨uq J.f0,uq J.f1,uq J.f2,uq J.f3,uq J.f4,uq J.f5,uq J.f6,uq J.f7,uq J.f8,uq J.f9,(fun _=>rfl),uq J.f11,uq J.f12,uq J.f13,uq J.f14,uq J.f15,uq J.f16,uq J.f17,J.b⟩⟩
  ·obtain rfl:=J.f7 (haft ⟨7,.guard⟩ (by simp) rfl);obtain rfl:=J.f8 (Fa haft 8);obtain rfl:=J.f9 (Fa haft 9);obtain rfl:=J.f10 (Fa haft 10);rw [if_pos (by rfl)];go_simp;go_wp2_with (go_at_call 8;refine (KI.out W J.b).mono ?_;rintro e W2 ⟨rfl,hb⟩)
   exact ⟨_,_,_,_,_,_,_,_,_,_,_,_,_,_,_,_,_,_,rfl,⟨uq J.f0,uq J.f1,uq J.f2,uq J.f3,(fun h=>(J.f4 (un h)).elim fun z h=>⟨z,h.kept hb⟩),uq J.f5,uq J.f6,uq J.f7,uq J.f8,uq J.f9,uq J.f10,(fun _=>rfl),uq J.f12,uq J.f13,uq J.f14,uq J.f15,uq J.f16,uq J.f17,zh J.b hb⟩⟩
  ·obtain rfl:=J.f7 (haft ⟨7,.guard⟩ (by simp) rfl);obtain ⟨q0,q1,q2,q3,q4⟩:=(HS.out.kept J.b).st.at;have hl:=Nat.lt_of_lt_of_le hlt0 J.b.size;rw [if_pos (by rfl)];go_simp;exact hK _ _ ⟨_,_,_,_,_,_,_,_,_,_,_,_,_,_,_,_,_,_,rfl,⟨uq J.f0,uq J.f1,uq J.f2,uq J.f3,uq J.f4,uq J.f5,uq J.f6,uq J.f7,uq J.f8,uq J.f9,uq J.f10,uq J.f11,(fun _=>rfl),uq J.f13,uq J.f14,uq J.f15,uq J.f16,uq J.f17,J.b⟩⟩
  ·obtain rfl:=J.f7 (haft ⟨7,.guard⟩ (by simp) rfl);rw [if_pos (by rfl)];go_simp;exact hK _ _ ⟨_,_,_,_,_,_,_,_,_,_,_,_,_,_,_,_,_,_,rfl,⟨uq J.f0,uq J.f1,uq J.f2,uq J.f3,uq J.f4,uq J.f5,uq J.f6,uq J.f7,uq J.f8,uq J.f9,uq J.f10,uq J.f11,uq J.f12,(fun _=>rfl),uq J.f14,uq J.f15,uq J.f16,uq J.f17,J.b⟩⟩
  ·obtain rfl:=J.f7 (haft ⟨7,.guard⟩ (by simp) rfl);rw [if_pos (by rfl)];go_simp;exact hK _ _ ⟨_,_,_,_,_,_,_,_,_,_,_,_,_,_,_,_,_,_,rfl,⟨uq J.f0,uq J.f1,uq J.f2,uq J.f3,uq J.f4,uq J.f5,uq J.f6,uq J.f7,uq J.f8,uq J.f9,uq J.f10,uq J.f11,uq J.f12,uq J.f13,(fun _=>rfl),uq J.f15,uq J.f16,uq J.f17,J.b⟩⟩
  ·obtain rfl:=J.f7 (haft ⟨7,.guard⟩ (by simp) rfl);obtain rfl:=J.f12 (Fa haft 12);obtain rfl:=J.f13 (Fa haft 13);obtain rfl:=J.f14 (Fa haft 14);rw [if_pos (by rfl)];go_simp;go_wp2_with (go_at_call 9;refine (KK.out W J.b).mono ?_;rintro e W2 ⟨rfl,hb⟩)
   exact ⟨_,_,_,_,_,_,_,_,_,_,_,_,_,_,_,_,_,_,rfl,⟨uq J.f0,uq J.f1,uq J.f2,uq J.f3,(fun h=>(J.f4 (un h)).elim fun z h=>⟨z,h.kept hb⟩),uq J.f5,uq J.f6,uq J.f7,uq J.f8,uq J.f9,uq J.f10,uq J.f11,uq J.f12,uq J.f13,uq J.f14,(fun _=>rfl),uq J.f16,uq J.f17,zh J.b hb⟩⟩
  ·obtain rfl:=J.f7 (haft ⟨7,.guard⟩ (by simp) rfl);obtain rfl:=J.f11 (Fa haft 11);obtain rfl:=J.f15 (Fa haft 15);rw [if_pos (by rfl)];go_simp;exact hK _ _ ⟨_,_,_,_,_,_,_,_,_,_,_,_,_,_,_,_,_,_,rfl,⟨uq J.f0,uq J.f1,uq J.f2,uq J.f3,uq J.f4,uq J.f5,uq J.f6,uq J.f7,uq J.f8,uq J.f9,uq J.f10,uq J.f11,uq J.f12,uq J.f13,uq J.f14,uq J.f15,(fun _=>by first | rfl | simp),uq J.f17,J.b⟩⟩
  ·obtain rfl:=J.f7 (Fa haft 7);obtain rfl:=J.f16 (Fa haft 16);go_simp;exact hK _ _ ⟨_,_,_,_,_,_,_,_,_,_,_,_,_,_,_,_,_,_,rfl,⟨uq J.f0,uq J.f1,uq J.f2,uq J.f3,uq J.f4,uq J.f5,uq J.f6,uq J.f7,uq J.f8,uq J.f9,uq J.f10,uq J.f11,uq J.f12,uq J.f13,uq J.f14,uq J.f15,uq J.f16,(fun _=>rfl),J.b⟩⟩
theorem zdY (A:Option Addr) (len cap:Nat) (w:World) (h:z3D w A len cap) :
  Calls Tryz.prog 3 #[.slice A len cap] w fun e w'=>e=.returned (.bool true)∧Below w.heap.size w w':=by
 have hlen:len≤maxLen:=Nat.le_trans h.1 h.2.1;unfold maxLen at hlen;by_cases hbig:len≤1048576
 ·exact zfq A len cap hbig w h
 ·clear h;have hb:(1048576:Int) < (len:Int):=(by omega);go_enter Tryz.func3,Tryz.ntmps3;go_wp2;go_ret;exact ⟨rfl,Below.refl _ _⟩
end Go.Proofs.YtggmjiddadjilagGreat
