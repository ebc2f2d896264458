/-
  PROVED HERE: the program's wideEnough at a drawn table: the list 'needTo', in memory of its own; nothing that was in memory is turned. Also: 8 more texts of the same proof.
-/
import Derived.Test.YtggmjiddadjilalGreatB30
import Derived.Test.YtggmjiddadjilalGreatB28
set_option maxRecDepth 1000000
set_option maxHeartbeats 40000000
namespace Go.Proofs.YtggmjiddadjilalGreat
open Value (int)
open IntKind (i64)
section
open Go.RowKit Go.BigFrame
theorem z5k (F:Nat) (hF:F=39\/F=91) (nd:ByteArray->Int) (hnd:∀ s,0<=nd s/\nd s<=30) (KN:∀ (s:ByteArray) (W:World),s.size<=maxLen->Calls Tryz.prog F #[.string s] W fun e w'=>e=.returned (int i64 (nd s))/\Below W.heap.size W w')
  (ac ar:Option Addr) (cc cr:Nat) (t:T) (hD:z0b t) (w:World) {z:Nat} (hc:zY w z (.slice ac t.cols.length cc) t.cols) (hr:zJ w z (.slice ar t.rows.length cr) t.rows) (C:Nat) (hgc:(gOf t).cols=C) :
  Calls Tryz.prog 38 #[.agg #[.slice ac t.cols.length cc,int i64 t.head,int i64 t.foot,.slice ar t.rows.length cr,int i64 t.gap],.func (.func F) #[] #[]] w fun e w'=>∃ v,e=.returned v/\zH w' w.heap.size w'.heap.size v (z1l (fun x=>nd (zL t x)) t.gap (gOf t).cells (z0u C) 4)/\Below w.heap.size w w':=by
 rcases hF with rfl | rfl
 all_goals
  obtain ⟨h40,C',hgc',hC88,hcel⟩:=z3n hD;obtain rfl:C'=C:=by rw [hgc'] at hgc;omega
  have K0:=ze (Below.refl w.heap.size w) (.cells #[.slice ac t.cols.length cc,int i64 t.head,int i64 t.foot,.slice ar t.rows.length cr,int i64 t.gap] 26);have HN:=Hd KN;have HCel:=Hd hcel;have HDr:=Hd hD;have HGC:=Hd hgc';have hup:=z83 (p:=fun x=>nd (zL t x)) (l:=z0u C') hcel h40 (by simp [z0u]) (fun x=>(hnd _).2) (zbb _);have HUp:=Hd hup;have hps:=fun s hs=>z82 (p:=fun x=>nd (zL t x)) (s:=((s+1:Nat):Int)) (l:=z1l (fun x=>nd (zL t x)) t.gap (gOf t).cells (z0u C') s) hcel (by rw [z3m];simp [z0u]) (fun x=>(hnd _).2) (hup s hs);have HPs:=Hd hps;have HT:=Hd (And.intro (hc.kept K0) (hr.kept K0));have HX:=Hd (zk w (.cells #[.slice ac t.cols.length cc,int i64 t.head,int i64 t.foot,.slice ar t.rows.length cr,int i64 t.gap] 26));have HK:=Hd K0;have hmk:=z4R C' (by omega);have hmx:Tryz.prog.follows .mixedOrders=true:=(by kernel_rfl);clear hcel hD hup hps hc hr K0 KN hgc' hgc;go_enter Tryz.func38,Tryz.ntmps38;go_wp2_with fail
  refine (z6m ac ar cc cr t HDr.out _ HT.out.1 HT.out.2).mono ?_;rintro e w2 ⟨vg,rfl,hO2,hb2⟩;obtain ⟨ag,cg,rfl⟩:=z66 hO2;have hG2:=hO2.at (z81 HDr.out)
  have HW:Hid (Ws w z w2.heap.size ac ar cc cr t ag cg (w2.alloc (.cells #[int i64 (gOf t).rows,int i64 (gOf t).cols,.slice ag (gOf t).cells.length cg] 68))) :=
   ⟨ze (zg HK.out hb2) _,⟨(HT.out.1.kept hb2).kept (ze (Below.refl _ _) _),(HT.out.2.kept hb2).kept (ze (Below.refl _ _) _)⟩,(Below.heap_alloc _ _ _ (Nat.lt_of_lt_of_le (by simp) hb2.size)).trans ((hb2.block w.heap.size (by simp)).trans HX.out),(hG2.base (by simp)).kept (ze (Below.refl _ _) _),zk _ _⟩
  have hz2:w.heap.size < w2.heap.size:=Nat.lt_of_lt_of_le (by simp) hb2.size;clear hO2 hb2 hG2 HT HX HK;go_upto_region 2 with fail
  generalize hW3:w2.alloc (.cells #[int i64 (gOf t).rows,int i64 (gOf t).cols,.slice ag (gOf t).cells.length cg] 68)=W3 at HW |-;have hz3:W3.heap.size=w2.heap.size+1:=(by rw [<-hW3];simp);clear hW3;obtain ⟨y0,y1,y2,y3⟩:=HW.out.at;rw [HGC.out] at y2;go_wp2_with fail
  clear hmk y0 y1 y2 y3;have S0:Hid (zH (W3.alloc (.cells (z0G C') 3)) (w2.heap.size+1) (w2.heap.size+2) (.slice (some ⟨w2.heap.size+1,0,none⟩) C' C') (z0u C')):=(by have h:=z3L W3 C' (by omega);rw [hz3] at h;exact h);go_loopw [7] (fun s W=>∃ m:Nat,s=int i64 ((m:Int)+1)/\m<=4/\Hid (zH W (w2.heap.size+1) (w2.heap.size+2) (.slice (some ⟨w2.heap.size+1,0,none⟩) C' C') (z1l (fun x=>nd (zL t x)) t.gap (gOf t).cells (z0u C') m))/\Hid (Below W3.heap.size W3 W)/\W3.heap.size < W.heap.size) (fun s _=>5 - (intOf s).toNat)
  case atStart=>exact ⟨0,rfl,by omega,S0,ze (Below.refl _ _) _,by simp⟩
  case round =>
   clear S0;obtain ⟨m,rfl,hm,HR,HB,hsz⟩:=hrel;by_cases hlt:m < 4
   case neg =>
    obtain rfl:m=4:=by omega
    have hK:=Hd (HW.out.1.trans (HB.out.mono (by omega)));have HF:=Hd (HR.out.base (B':=w.heap.size) (D':=wr.heap.size) (by omega) (by omega));go_wp2;go_ret;exact ⟨_,rfl,HF.out,hK.out⟩
   have HWr:=Hd (HW.out.kept HB.out);obtain ⟨y0,y1,y2,y3⟩:=HWr.out.at;rw [HGC.out] at y2;go_wp2_with fail
   clear y0 y1 y2 y3 HWr;have HUm:=Hd (HPs.out m (by omega) (by omega));rw [show decide ((m:Int)+1<=4)=true by simp;omega];go_loopw [22] (fun s W=>∃ k:Nat,s=int i64 k/\k<=(gOf t).cells.length/\Hid (zH W (w2.heap.size+1) (w2.heap.size+2) (.slice (some ⟨w2.heap.size+1,0,none⟩) C' C') (z1V (fun x=>nd (zL t x)) t.gap ((m+1:Nat):Int) (gOf t).cells (z1l (fun x=>nd (zL t x)) t.gap (gOf t).cells (z0u C') m) k))/\Hid (Below W3.heap.size W3 W)/\W3.heap.size < W.heap.size) (fun s _=>(gOf t).cells.length - (intOf s).toNat)
   case atStart=>exact ⟨0,rfl,Nat.zero_le _,HR,HB,hsz⟩
   case round =>
    clear HR HB hsz;obtain ⟨k,rfl,hk,HR,HB,hsz⟩:=hrel;by_cases hkl:k < (gOf t).cells.length
    case neg =>
     obtain rfl:k=(gOf t).cells.length:=by omega
     go_wp2;go_roundw
     case rel=>exact ⟨m+1,by go_num,by omega,HR,HB,hsz⟩
     case measure=>simp [intOf];omega
    have HWr:=Hd (HW.out.kept HB.out);obtain ⟨b,off,cap',e',hc1,hc2,hbl,hx,_⟩:=At.get HWr.out.2.2.2.1 hkl;simp only [Value.slice.injEq,true_and] at e';obtain ⟨rfl,rfl⟩:=e';unfold maxLen at hc2;have HCe:=Hd (HCel.out k hkl);obtain ⟨⟨rn,jn,cn,mn,e1,e2,e3,e4,h1,h2,h3,h4,h5⟩,hgp,hrs⟩:=HCel.out k hkl;have HSz:Hid ((zL t ((gOf t).cells.getD k dG)).size<=maxLen):=z8Y HCe.out HWr.out.2.1.2;have hub:=HUm.out k hk;have HNo:Hid ((mn:Int) ≠ ((m+1:Nat):Int)->z1V (fun x=>nd (zL t x)) t.gap ((m+1:Nat):Int) (gOf t).cells (z1l (fun x=>nd (zL t x)) t.gap (gOf t).cells (z0u C') m) (k+1)=z1V (fun x=>nd (zL t x)) t.gap ((m+1:Nat):Int) (gOf t).cells (z1l (fun x=>nd (zL t x)) t.gap (gOf t).cells (z0u C') m) k):=fun h=>by rw [z1V,if_neg (by rw [e4];exact h)]
    have HYes:Hid ((mn:Int)=((m+1:Nat):Int)->z1V (fun x=>nd (zL t x)) t.gap ((m+1:Nat):Int) (gOf t).cells (z1l (fun x=>nd (zL t x)) t.gap (gOf t).cells (z0u C') m) (k+1)=z3h (z1V (fun x=>nd (zL t x)) t.gap ((m+1:Nat):Int) (gOf t).cells (z1l (fun x=>nd (zL t x)) t.gap (gOf t).cells (z0u C') m) k) cn mn t.gap (nd (zL t ((gOf t).cells.getD k dG)))):=fun h=>by rw [z1V,if_pos (by rw [e4];exact h),e3,e4,Int.toNat_natCast,Int.toNat_natCast]
    have hpl:=z3l (fun x=>nd (zL t x)) t.gap ((m+1:Nat):Int) (gOf t).cells (z1l (fun x=>nd (zL t x)) t.gap (gOf t).cells (z0u C') m) k;rw [z3m,show (z0u C').length=C' by simp [z0u]] at hpl;generalize (gOf t).cells.getD k dG=x at hx e1 e2 e3 e4 HYes hrs HCe HSz;generalize hL:z1V (fun x=>nd (zL t x)) t.gap ((m+1:Nat):Int) (gOf t).cells (z1l (fun x=>nd (zL t x)) t.gap (gOf t).cells (z0u C') m) k=L at HR HNo HYes hub hpl;clear hL;have HKT:=Hd (fun (W:World) (hR:zJ W z (.slice ar t.rows.length cr) t.rows)=>z7I ac ar cc cr t x HCe.out W hR);simp only [e1,e2,e3,e4] at HKT;obtain ⟨x0,x1,x2,x3,x4⟩:=hx;rw [e1] at x0;rw [e2] at x4;rw [e3] at x1;rw [e4] at x3;by_cases hms:(mn:Int)=(m:Int)+1
    case neg =>
     have hmb:((mn:Int) == (m:Int)+1)=false:=(by simpa using hms);have HL:=Hd (HNo.out (by omega));clear HNo HYes e1 e2 e3 e4 hms;go_wp2;go_roundw
     case rel=>exact ⟨k+1,by go_num,by omega,by rw [HL.out];exact HR.out.kept (fun j h0 _ _=>Below.heap_alloc _ _ _ h0),ze HB.out _,by simp;omega⟩
     case measure=>simp [intOf];omega
    obtain rfl:mn=m+1:=by omega
    have HL:=Hd (HYes.out rfl);have hmb:((m:Int)+1 == (m:Int)+1)=true:=(by simp);have hcast:((m+1:Nat):Int)=(m:Int)+1:=(by omega);rw [hcast] at x3;simp only [hcast] at HKT;clear hcast;clear HNo HYes e1 e2 e3 e4 hms;go_upto_region 10 with fail
    have HW4:Hid (Ws w z w2.heap.size ac ar cc cr t (some ⟨b,off,none⟩) cg (wr.alloc (.cells #[int i64 (rn:Int),int i64 (cn:Int),int i64 x.rows,int i64 ((m:Int)+1),int i64 (jn:Int)] 73))):=HWr.out.kept (ze (Below.refl _ _) _);have HB4:=Hd (ze HB.out (.cells #[int i64 (rn:Int),int i64 (cn:Int),int i64 x.rows,int i64 ((m:Int)+1),int i64 (jn:Int)] 73));have HR4:=Hd (HR.out.kept (fun j h0 _ _=>Below.heap_alloc wr (.cells #[int i64 (rn:Int),int i64 (cn:Int),int i64 x.rows,int i64 ((m:Int)+1),int i64 (jn:Int)] 73) j h0));have HX4:=Hd (zk wr (.cells #[int i64 (rn:Int),int i64 (cn:Int),int i64 x.rows,int i64 ((m:Int)+1),int i64 (jn:Int)] 73));have hsz4:W3.heap.size < (wr.alloc (.cells #[int i64 (rn:Int),int i64 (cn:Int),int i64 x.rows,int i64 ((m:Int)+1),int i64 (jn:Int)] 73)).heap.size:=(by simp;omega);generalize wr.alloc (.cells #[int i64 (rn:Int),int i64 (cn:Int),int i64 x.rows,int i64 ((m:Int)+1),int i64 (jn:Int)] 73)=W4 at HW4 HB4 HR4 HX4 hsz4 |-;generalize wr.heap.size=cb at HX4 |-;clear HWr HR HB hsz x0 x1 x2 x3 x4 hbl;have q1:W4.cell? ⟨cb,1,none⟩=some (int i64 (cn:Int)):=zf HX4.out;have hcb:cb < W4.heap.size:=(bL HX4.out);have htb:w.heap.size < W4.heap.size:=(bL HW4.out.2.2.1);obtain ⟨y0,y1,y2,y3⟩:=HW4.out.at;obtain ⟨t3,t4,t5,t6,t10,t11,t12,t13⟩:=zaz h3 hC88;have hne:=z1e W4;have g0:=zj (a:=⟨cb,0,none⟩) hcb (zf (p:=0) HX4.out);have g1:=zj (a:=⟨cb,1,none⟩) hcb (zf (p:=1) HX4.out);have g2:=zj (a:=⟨cb,2,none⟩) hcb (zf (p:=2) HX4.out);have g3:=zj (a:=⟨cb,3,none⟩) hcb (zf (p:=3) HX4.out);have g4:=zj (a:=⟨cb,4,none⟩) hcb (zf (p:=4) HX4.out);have b0:=zj (a:=⟨w.heap.size,0,none⟩) htb (zf (p:=0) HW4.out.2.2.1);have b1:=zj (a:=⟨w.heap.size,1,none⟩) htb (zf (p:=1) HW4.out.2.2.1);have b2:=zj (a:=⟨w.heap.size,2,none⟩) htb (zf (p:=2) HW4.out.2.2.1);have b3:=zj (a:=⟨w.heap.size,3,none⟩) htb (zf (p:=3) HW4.out.2.2.1);have b4:=zj (a:=⟨w.heap.size,4,none⟩) htb (zf (p:=4) HW4.out.2.2.1);have KT:=Hd (fun (p:BW W4)=>z2y ((HKT.out p.u (HW4.out.kept p.h).2.1.2).mono (fun _ _ ⟨h1,_,h2⟩=>And.intro h1 h2)));have KND:=Hd (fun (p:BW W4)=>z2y (HN.out (zL t x) p.u HSz.out));have KW:=Hd (fun W=>zd3 (w2.heap.size+1) (w2.heap.size+2) (w2.heap.size+1) C' C' L (fun i hi=>by have:=hub i hi;omega) cn (m+1) (by rw [hpl];exact h3) ⟨h4,h5⟩ t.gap (nd (zL t x)) hgp (hnd (zL t x)) W);clear y0 y1 y2 y3 q1;refine z1p 15 hmx (by rfl) (by rfl) (by kernel_rfl) (by kernel_rfl) ?_;simp only [List.take_succ_cons,List.take_zero];repeat (go_big_quiet_step (first | (go_at_call 57;refine KT.out _) | (go_at_call 39;refine KND.out _) | (go_at_call 91;refine KND.out _)))
    refine wpQuiet_nil ?_;intro W5 hw';obtain ⟨⟨Wx,hW5⟩,hw''⟩:=hw';subst hw'';have HB5:=Hd (HB4.out.trans (hW5.mono (Nat.le_of_lt hsz4)));have HR5:=Hd (HR4.out.kept (fun j h0 _ _=>hW5.block j h0));have hsz5:W3.heap.size < W5.heap.size:=Nat.lt_of_lt_of_le hsz4 hW5.size;clear g0 g1 g2 g3 g4 b0 b1 b2 b3 b4 KT KND HKT HW4 HB4 HR4 HX4 hsz4 hW5 hne;rw [if_pos (by rfl)];go_simp;go_wp2_with (go_at_call 59;refine (KW.out W5 HR5.out (by omega)).mono ?_;rintro e w7 ⟨rfl,hr7,hk7⟩;have HR7:=Hd hr7;have HB7:=Hd (HB5.out.trans (hk7.below (Nat.le_of_lt hsz5) (by omega)));have hsz7:W3.heap.size < w7.heap.size:=Nat.lt_of_lt_of_le hsz5 hk7.size;clear hr7 hk7)
    go_roundw
    case rel=>exact ⟨k+1,by go_num,by omega,by rw [HL.out];exact HR7.out,HB7,hsz7⟩
    case measure=>simp [intOf];omega
theorem zfz (s:ByteArray) (W:World) (h:s.size<=maxLen):Calls Tryz.prog 39 #[.string s] W fun e w'=>e=.returned (int i64 ((z0y (zV s):Nat):Int))/\Below W.heap.size W w':=z9K s h W
theorem z3t (ac ar:Option Addr) (cc cr:Nat) (t:T) (hD:z0b t) (w:World) {z:Nat} (hc:zY w z (.slice ac t.cols.length cc) t.cols) (hr:zJ w z (.slice ar t.rows.length cr) t.rows) :
  Calls Tryz.prog 14 #[.agg #[.slice ac t.cols.length cc,int i64 t.head,int i64 t.foot,.slice ar t.rows.length cr,int i64 t.gap]] w fun e w'=>∃ v,e=.returned v/\zH w' w.heap.size w'.heap.size v (zu t)/\Below w.heap.size w w':=by
 obtain ⟨_,C,hgc,hC,_⟩:=z3n hD;have HCN:=Hd (z4y hgc);have HL:Hid (z1J t.cols (z26 t (z2s t)) C=zu t):=(by rw [Hid,zu,HCN.out]);have hNL:z1l (fun x=>((z0y (zV (zL t x)):Nat):Int)) t.gap (gOf t).cells (z0u C) 4=z26 t (z2s t):=(by unfold z26;rw [HCN.out];rfl);have hlen:=z2i t (z2s t);rw [HCN.out] at hlen;have HUp:=Hd (z5A hD (fun x=>(z8C t x).2));have HSd:=Hd (fun k (hk:k < C)=>z9M (t:=t) (k:=k) (by rw [HCN.out];exact hk));have hmx:Tryz.prog.follows .mixedOrders=true:=(by kernel_rfl);have HK0:=Hd (ze (Below.refl w.heap.size w) (.cells #[.slice ac t.cols.length cc,int i64 t.head,int i64 t.foot,.slice ar t.rows.length cr,int i64 t.gap] 26));have HX:=Hd (zk w (.cells #[.slice ac t.cols.length cc,int i64 t.head,int i64 t.foot,.slice ar t.rows.length cr,int i64 t.gap] 26));have HT:=Hd (And.intro (hc.kept HK0.out) (hr.kept HK0.out));have hs1:(w.alloc (.cells #[.slice ac t.cols.length cc,int i64 t.head,int i64 t.foot,.slice ar t.rows.length cr,int i64 t.gap] 26)).heap.size=w.heap.size+1:=(by simp);have KE:=Hd (fun W h1 h2=>z5k _ (.inl rfl) (fun s=>((z0y (zV s):Nat):Int)) (fun s=>by have:=z5z (zV s);omega) zfz ac ar cc cr t hD W (z:=z) h1 h2 C hgc);rw [hNL] at KE;generalize z26 t (z2s t)=L at KE HL hlen HUp;clear hNL hc hr hD hgc;go_enter Tryz.func14,Tryz.ntmps14;go_upto_region 1 with fail
 generalize w.alloc (.cells #[.slice ac t.cols.length cc,int i64 t.head,int i64 t.foot,.slice ar t.rows.length cr,int i64 t.gap] 26)=W1 at HK0 HX HT hs1 |-;have b0:W1.cell? ⟨w.heap.size,0,none⟩=some (.slice ac t.cols.length cc):=zf HX.out;have b1:W1.cell? ⟨w.heap.size,1,none⟩=some (int i64 t.head):=zf HX.out;have b2:W1.cell? ⟨w.heap.size,2,none⟩=some (int i64 t.foot):=zf HX.out;have b3:W1.cell? ⟨w.heap.size,3,none⟩=some (.slice ar t.rows.length cr):=zf HX.out;have b4:W1.cell? ⟨w.heap.size,4,none⟩=some (int i64 t.gap):=zf HX.out;go_wp2_with fail
 refine (KE.out _ HT.out.1 HT.out.2).mono ?_;rintro e w2 ⟨v2,rfl,hR2,hb2⟩;obtain ⟨a2,c2,rfl⟩:=hR2.form;rw [hlen] at hR2 |-;have HR2:=Hd hR2;have HB2:=Hd hb2;have hz2:w.heap.size+1<=w2.heap.size:=(by have:=hb2.size;omega);clear hR2 hb2 b0 b1 b2 b3 b4 KE;go_wp2_with fail
 go_loopw [10] (fun s W=>∃ k:Nat,s=int i64 k/\k<=C/\Hid (zH W W1.heap.size w2.heap.size (.slice a2 C c2) (z1J t.cols L k))/\Hid (Below W1.heap.size W1 W)/\w2.heap.size<=W.heap.size) (fun s _=>C - (intOf s).toNat)
 case atStart=>exact ⟨0,rfl,Nat.zero_le _,HR2,HB2,Nat.le_refl _⟩
 case round =>
  clear HR2 HB2;obtain ⟨k,rfl,hk,HR,HB,hsz⟩:=hrel;by_cases hlt:k < C
  case neg =>
   obtain rfl:k=C:=by omega
   have HF:=Hd (HR.out.base (B':=w.heap.size) (D':=wr.heap.size) (by omega) hsz);have HK:=Hd (HK0.out.trans (HB.out.mono (by omega)));go_wp2;go_ret;exact ⟨_,rfl,by rw [<-HL.out];exact HF.out,HK.out⟩
  have X0:=(HB.out.block w.heap.size (by omega)).trans HX.out;have b0:wr.cell? ⟨w.heap.size,0,none⟩=some (.slice ac t.cols.length cc):=zf X0;have hwz:w.heap.size < wr.heap.size:=(by omega);have KS:=Hd (z7K _ t.cols (k:Int) wr (HT.out.1.kept HB.out));obtain ⟨g,cap',e',hBg,hgD,hgw,hc1,hc2,hx,hf⟩:=HR.out.get (i:=k) (by rw [z1M];omega);rw [z1M,hlen] at e' hc1;simp only [Value.slice.injEq,true_and] at e';obtain ⟨rfl,rfl⟩:=e';unfold maxLen at hc2;have hxb:=HUp.out k (by omega);rw [z2J t.cols L k (Nat.le_refl _)] at hx;have hsd:=HSd.out k hlt;have HYes:Hid ((sd t.cols k).1=1->z1J t.cols L (k+1)=(z1J t.cols L k).set k (max (L.getD k 0) (sd t.cols k).2)):=fun h=>by rw [z1J,if_pos h,z2J t.cols L k (Nat.le_refl _)]
  have HNo:Hid ((sd t.cols k).1 ≠ 1->z1J t.cols L (k+1)=z1J t.cols L k):=fun h=>by rw [z1J,if_neg h]
  generalize sd t.cols k=p at KS hsd HYes HNo;clear X0;by_cases hp:p.1=1
  case neg =>
   have hpb:(p.1 == 1)=false:=(by simpa using hp);have HF:=Hd (HNo.out hp);clear HNo HYes hsd hp;go_wp2_with fail
   refine KS.out.mono ?_;rintro e w3 ⟨rfl,hb3⟩;have HK3:=Hd hb3;clear hb3;go_wp2;go_roundw
   case rel=>exact ⟨k+1,by go_num,by omega,by rw [HF.out];exact HR.out.kept (fun j h0 _ _=>(Below.heap_alloc _ _ _ (Nat.lt_of_lt_of_le h0 HK3.out.size)).trans (HK3.out.block j h0)),ze (HB.out.trans (HK3.out.mono HB.out.size)) _,by have:=HK3.out.size;simp;omega⟩
   case measure=>simp [intOf];omega
  have HF:=Hd (HYes.out hp);have hq:=hsd hp;clear HNo HYes hsd;obtain ⟨p1,p2⟩:=p;obtain rfl:p1=1:=hp;have hq:0<=p2/\p2<=60:=hq;dsimp only at KS HF;go_wp2_with fail
  refine KS.out.mono ?_;rintro e w3 ⟨rfl,hb3⟩;have HX3:=Hd (zk w3 (.cells #[int i64 1,int i64 p2] 55));have HB3:=Hd (ze (HB.out.trans (hb3.mono HB.out.size)) (.cells #[int i64 1,int i64 p2] 55));have HR3:=Hd (HR.out.kept (fun j h0 _ _=>(Below.heap_alloc w3 (.cells #[int i64 1,int i64 p2] 55) j (Nat.lt_of_lt_of_le h0 hb3.size)).trans (hb3.block j h0)));have hsz3:w2.heap.size<=(w3.alloc (.cells #[int i64 1,int i64 p2] 55)).heap.size:=(by have:=hb3.size;simp;omega);clear hb3 HR HB hx hf b0;go_upto_region 7 with fail
  generalize w3.alloc (.cells #[int i64 1,int i64 p2] 55)=W3 at HX3 HB3 HR3 hsz3 |-;generalize w3.heap.size=cb at HX3 |-;obtain ⟨g3,cap3,e3,hBg3,hgD3,hgw3,hc13,hc23,hx3,hf3⟩:=HR3.out.get (i:=k) (by rw [z1M];omega);rw [z1M,hlen] at e3;simp only [Value.slice.injEq,Option.some.injEq,Addr.mk.injEq,and_true] at e3;obtain ⟨rfl,_,rfl⟩:=e3;rw [z2J t.cols L k (Nat.le_refl _)] at hx3;have hcb:cb < W3.heap.size:=(bL HX3.out);have hne:=z1e W3;have q1:=zj (a:=⟨cb,1,none⟩) hcb (zf (p:=1) HX3.out);have q2:=zj (a:=⟨g,k,none⟩) hgw3 hx3;have HN:=Hd (fun W (h:Below W3.heap.size W3 W)=>(HR3.out.kept (fun j h0 _ _=>h.block j h0)).set (i:=k) (by rw [z1M];omega) (max (L.getD k 0) p2));rw [<-HF.out] at HN;generalize L.getD k 0=y at hxb hx3 q2 HN;clear hx3 hf3 hc13 hc23 HF;refine z1p 10 hmx (by rfl) (by rfl) (by kernel_rfl) (by kernel_rfl) ?_;simp only [List.take_succ_cons,List.take_zero];repeat (go_big_quiet_step (fail))
  refine wpQuiet_nil ?_;intro W5 hw';obtain ⟨⟨Wx,hW5⟩,hw''⟩:=hw';subst hw'';have HN5:=Hd (HN.out _ hW5);have HB5:=Hd (zw (HB3.out.trans (hW5.mono HB3.out.size)) (p:=⟨g,k,none⟩) hBg (int i64 (max y p2)));have hf5:=(HR3.out.kept (fun j h0 _ _=>hW5.block j h0)).get (i:=k) (by rw [z1M];omega);obtain ⟨g5,cap5,e5,_,_,hgw5,_,_,hx5,hf5⟩:=hf5;simp only [Value.slice.injEq,Option.some.injEq,Addr.mk.injEq,and_true] at e5;have eg:=e5.1;clear e5;subst eg;have hsz5:w2.heap.size<=(W5.setCell ⟨g,k,none⟩ (int i64 (max y p2))).heap.size:=(by rw [z2c];have:=hW5.size;omega);clear q1 q2 HN HB3 HR3 hW5 hne;rw [if_pos (by rfl)];go_simp;go_wp2;go_roundw
  case rel=>exact ⟨k+1,by go_num,by omega,HN5,HB5,hsz5⟩
  case measure=>simp [intOf];omega
end
section
open Go.RowKit
def z2q (js:List Nat):List Int:=js.map (fun k:Nat=>(k:Int))
theorem z1r (js:List Nat):(z2q js).length=js.length:=by simp [z2q]
theorem z72 {js:List Nat} {k:Nat} (h:k < js.length):(z2q js).getD k 0=((js.getD k 0:Nat):Int):=by simp [z2q,List.getD,h]
theorem zd5 (js:List Nat) (k:Nat):z2q (js ++ [k])=z2q js ++ [(k:Int)]:=by simp [z2q]
theorem ze7 {P:Nat->Bool} {n:Nat} (h:P n=true):zh P (n+1)=zh P n ++ [n]:=by rw [z6b,if_pos h]
theorem zf9 {P:Nat->Bool} {n:Nat} (h:P n=false):zh P (n+1)=zh P n:=by rw [z6b,if_neg (by rw [h];simp),List.append_nil]
theorem z2V (P:Nat->Bool) (n:Nat):(zh P n).length<=n:=by unfold zh;exact Nat.le_trans (List.length_filter_le _ _) (by simp)
theorem z6w {P:Nat->Bool} {n k:Nat} (h:k < (zh P n).length):(zh P n).getD k 0 < n/\P ((zh P n).getD k 0)=true:=by
 have e:(zh P n).getD k 0=(zh P n)[k]:=(by simp [List.getD,h]);rw [e];exact z2o h
def z3u (l:List Int) (k:Nat):List Int:=l.take k ++ List.replicate (l.length - k) 0
theorem z52 (l:List Int) {k:Nat} (h:k<=l.length):(z3u l k).length=l.length:=by simp [z3u];omega
theorem z7L (l:List Int):z3u l 0=List.replicate l.length 0:=by simp [z3u]
theorem z90 (l:List Int):z3u l l.length=l:=by simp [z3u]
theorem z7M {l:List Int} {k:Nat} (h:k < l.length):z3u l (k+1)=(z3u l k).set k (l.getD k 0):=by
 have e:List.replicate (l.length - k) (0:Int)=0 :: List.replicate (l.length - (k+1)) 0:=by
  rw [show l.length - k=(l.length - (k+1))+1 by omega,List.replicate_succ]
 have hl:(l.take k).length=k:=(by rw [List.length_take];omega);unfold z3u;rw [e,List.set_append_right _ _ (by omega),hl,Nat.sub_self,List.set_cons_zero,List.take_succ_eq_append_getElem h,show l.getD k 0=l[k] by simp [List.getD,h],List.append_assoc];rfl
structure Bk2 (r s:Nat) (w w':World):Prop where
 os:w'.os=w.os
 tape:w'.tape=w.tape
 output:w'.output=w.output
 size:w.heap.size<=w'.heap.size
 block:∀ k,k < w.heap.size->k ≠ r->k ≠ s->w'.heap[k]?=w.heap[k]?
theorem Bk2.refl (r s:Nat) (w:World):Bk2 r s w w:=⟨rfl,rfl,rfl,Nat.le_refl _,fun _ _ _ _=>rfl⟩
theorem Bk2.trans {r s:Nat} {a b c:World} (h:Bk2 r s a b) (k:Bk2 r s b c):Bk2 r s a c :=
 ⟨k.os.trans h.os,k.tape.trans h.tape,k.output.trans h.output,Nat.le_trans h.size k.size,fun i hi hr hs=>(k.block i (Nat.lt_of_lt_of_le hi h.size) hr hs).trans (h.block i hi hr hs)⟩
theorem Bk2.of_below {r s:Nat} {w w':World} (h:Below w.heap.size w w'):Bk2 r s w w':=⟨h.os,h.tape,h.output,h.size,fun k hk _ _=>h.block k hk⟩
theorem Bk2.set {r s:Nat} {a w:World} (h:Bk2 r s a w) {p:Addr} (hp:p.block=r\/p.block=s) (u:Value):Bk2 r s a (w.setCell p u) :=
 ⟨h.os,h.tape,h.output,by simpa [World.setCell] using h.size,fun k hk hr hs=>(Below.heap_setCell _ _ _ _ (by omega)).trans (h.block k hk hr hs)⟩
theorem Bk2.below {r s:Nat} {w w':World} (h:Bk2 r s w w') {n:Nat} (hn:n<=w.heap.size) (hr:n<=r) (hs:n<=s):Below n w w':=⟨h.os,h.tape,h.output,h.size,fun k hk=>h.block k (by omega) (by omega) (by omega)⟩
theorem zH.bk2 {w w':World} {B D r s:Nat} {v:Value} {l:List Int} (h:zH w B D v l) (k:Bk2 r s w w') (hr:r < B\/D<=r) (hs:s < B\/D<=s):zH w' B D v l:=h.kept (fun j h0 h1 h2=>k.block j h0 (by omega) (by omega))
def Sp (W:World) (sb:Nat) (ac ar:Option Addr) (cc cr:Nat) (t:T) (width:Int) (g cap C:Nat) (left:Int):Prop :=
 W.heap[sb]?=some (.cells #[.slice ac t.cols.length cc,int i64 t.head,int i64 t.foot,.slice ar t.rows.length cr,int i64 t.gap,int i64 width,.slice (some ⟨g,0,none⟩) C cap,int i64 left] 118)
theorem Sp.lt {W:World} {sb:Nat} {ac ar:Option Addr} {cc cr:Nat} {t:T} {width:Int} {g cap C:Nat} {left:Int} (h:Sp W sb ac ar cc cr t width g cap C left):sb < W.heap.size:=(bL h)
theorem Sp.kept {W W':World} {sb:Nat} {ac ar:Option Addr} {cc cr:Nat} {t:T} {width:Int} {g cap C:Nat} {left:Int} (h:Sp W sb ac ar cc cr t width g cap C left) (k:Below W.heap.size W W'):Sp W' sb ac ar cc cr t width g cap C left:=(k.block sb h.lt).trans h
theorem Sp.other {W:World} {sb:Nat} {ac ar:Option Addr} {cc cr:Nat} {t:T} {width:Int} {g cap C:Nat} {left:Int} (h:Sp W sb ac ar cc cr t width g cap C left) {p:Addr} (hp:sb ≠ p.block) (u:Value):Sp (W.setCell p u) sb ac ar cc cr t width g cap C left:=(Below.heap_setCell _ _ _ _ hp).trans h
theorem Sp.left {W:World} {sb:Nat} {ac ar:Option Addr} {cc cr:Nat} {t:T} {width:Int} {g cap C:Nat} {left:Int} (h:Sp W sb ac ar cc cr t width g cap C left) (x:Int):Sp (W.setCell ⟨sb,7,none⟩ (int i64 x)) sb ac ar cc cr t width g cap C x:=(zM h (p:=7) (int i64 x)).trans (by simp)
theorem z4N {l:List Int} {js:List Nat} {g:List Int} {M N:Int} (hM:0<=M) (hl:∀ i,0<=l.getD i 0/\l.getD i 0<=M) (hg:∀ i,0<=g.getD i 0/\g.getD i 0<=N):∀ (k:Nat) (i:Nat),0<=(z0o l js g k).getD i 0/\(z0o l js g k).getD i 0<=M+k * N
 | 0,i=>by have:=hl i;simp only [z0o];omega
 | k+1,i=>by
  have h0:=z4N (js:=js) hM hl hg k i;have h1:=z4N (js:=js) hM hl hg k (js.getD k 0);have h2:=hg k;have e:((k+1:Nat):Int) * N=k * N+N:=(by rw [Int.natCast_add,Int.add_mul];simp);rw [e];simp only [z0o];generalize js.getD k 0=j at h1 |-;generalize z0o l js g k=L at h0 h1 |-;generalize g.getD k 0=x at h2 |-;by_cases hi:i=j
  ·subst hi;by_cases hlen:i < L.length
   ·have e2:(L.set i (L.getD i 0+x)).getD i 0=L.getD i 0+x:=(by rw [List.getD,List.getElem?_set_self hlen,Option.getD_some]);rw [e2];omega
   ·rw [List.set_eq_of_length_le (by omega)];omega
  ·have e2:(L.set j (L.getD j 0+x)).getD i 0=L.getD i 0:=(by rw [List.getD,List.getElem?_set_ne (Ne.symm hi)];rfl);rw [e2];omega
theorem z5l {l:List Int} (h:∀ i,i < l.length->0<=l.getD i 0/\l.getD i 0<=100000):l.all wtB=true:=by
 rw [List.all_eq_true];intro x hx;obtain ⟨i,hi,rfl⟩:=List.mem_iff_getElem.1 hx;have:=h i hi;rw [show l.getD i 0=l[i] by simp [List.getD,hi]] at this;simp only [wtB,decide_eq_true_eq];exact this
theorem zbU {left:Int} {l:List Int} (hok:zt left l=true):(z0m left l).all wtB=true:=by
 obtain ⟨l1,_,_,_,e1⟩:=z1K hok;obtain ⟨_,_,hw⟩:=z09 hok;exact z5l (fun i hi=>by have:=e1 i (by omega);have:=z2Y hw (i:=i) (by omega);omega)
theorem z7N {L want:List Int} {P:Nat->Bool} {left:Int} (hl:want.length=L.length) (hok:zt left want=true) (hz:∀ i,i < want.length->P i=false->want.getD i 0=0) :
  zt left (zP want P L.length)=true/\(z0m left (zP want P L.length)).length=(zh P L.length).length/\(z0m left (zP want P L.length)).all wtB=true/\left - (z0m left (zP want P L.length)).sum=z23 left want /\
  z0o L (zh P L.length) (z0m left (zP want P L.length)) (zh P L.length).length=z1d L (z0m left want):=by
 have hok':zt left (zP want P L.length)=true:=(by rw [<-hl];exact zcO hok);obtain ⟨e1,e2⟩:=zdN hok hz;rw [hl] at e1 e2;obtain ⟨a1,a2,a3,a4,a5⟩:=z1K hok;obtain ⟨b1,b2,b3,b4,b5⟩:=z1K hok';refine ⟨hok',by rw [b1,z1n],zbU hok',by rw [<-e2];omega,?_⟩;rw [e1];refine z9X (by omega) (fun i hi hP=>?_);have:=a5 i (by omega);rw [hz i (by omega) hP] at this;omega
structure SpS (w0:World) (sb:Nat) (ac ar:Option Addr) (cc cr:Nat) (t:T) (width:Int) (g cap C D:Nat) (left:Int) (L:List Int) (W:World):Prop where
 bel:Below w0.heap.size w0 W
 sp:Sp W sb ac ar cc cr t width g cap C left
 row:zH W w0.heap.size D (.slice (some ⟨g,0,none⟩) C cap) L
theorem SpS.kept {w0:World} {sb:Nat} {ac ar:Option Addr} {cc cr:Nat} {t:T} {width:Int} {g cap C D:Nat} {left:Int} {L:List Int} {W W':World} (h:SpS w0 sb ac ar cc cr t width g cap C D left L W) (k:Below W.heap.size W W'):SpS w0 sb ac ar cc cr t width g cap C D left L W' :=
 ⟨zg h.bel k,h.sp.kept k,h.row.kept (fun j h0 _ _=>k.block j h0)⟩
theorem SpS.bk {w0:World} {sb:Nat} {ac ar:Option Addr} {cc cr:Nat} {t:T} {width:Int} {g cap C D r:Nat} {left:Int} {L:List Int} {W W':World} (h:SpS w0 sb ac ar cc cr t width g cap C D left L W) (k:Bk r W W') (hr:w0.heap.size<=r) (h1:r ≠ sb) (h2:D<=r):SpS w0 sb ac ar cc cr t width g cap C D left L W' :=
 ⟨h.bel.trans (k.below h.bel.size hr),(k.block sb h.sp.lt (Ne.symm h1)).trans h.sp,h.row.kept (fun j h0 _ h3=>k.block j h0 (by omega))⟩
theorem zfa (t:T) (q:Int) (k:Nat):((sd t.cols k).1 == q)=zn t q k:=by rw [Bool.eq_iff_iff];simp [zn]
theorem z5J (sb:Nat) (ac ar:Option Addr) (cc cr:Nat) (t:T) (width:Int) (g cap C:Nat) (left q:Int) (hC:C<=88) (w:World) {z:Nat} (hS:Sp w sb ac ar cc cr t width g cap C left) (hc:zY w z (.slice ac t.cols.length cc) t.cols) :
  Calls Tryz.prog 84 #[.pointer (some ⟨sb,0,none⟩),int i64 q] w fun e w'=>∃ v,e=.returned v/\zH w' w.heap.size w'.heap.size v (z2q (zh (zn t q) C))/\Below w.heap.size w w':=by
 obtain ⟨i0,hi,hz0,hz1,hz2⟩:=info_parts zcT;have hf0:=zfB;have HS:=Hd hS;have HC:=Hd hc;have s6:w.cell? ⟨sb,6,none⟩=some (.slice (some ⟨g,0,none⟩) C cap):=zf hS;clear hS hc;go_enter Tryz.func84,Tryz.ntmps84;go_wp2_with fail
 clear s6;go_loopw [5,12] (fun o i W=>∃ k:Nat,i=int i64 k/\k<=C/\Hid (W.ownsRow w.heap.size 3 1 o (z2q (zh (zn t q) k)).length ((z2q (zh (zn t q) k)).map (Value.int .i64)))/\Hid (Below w.heap.size w W)) (fun _ i _=>C - (intOf i).toNat)
 case atStart=>exact ⟨0,rfl,Nat.zero_le _,⟨by simp [z2q,zh],.inl ⟨rfl,by simp [z2q,zh]⟩⟩,Below.refl _ _⟩
 case round =>
  obtain ⟨k,rfl,hk,HO,HB⟩:=hrel;by_cases hlt:k < C
  case neg =>
   obtain rfl:k=C:=by omega
   have HR:=Hd (zH.of_owns HO.out);go_wp2;go_ret;exact ⟨_,rfl,HR.out.base (Nat.le_refl _) (Nat.le_refl _),HB.out⟩
  have s0:wr.cell? ⟨sb,0,none⟩=some (.slice ac t.cols.length cc):=zf (HS.out.kept HB.out);have KS:=Hd (z7K _ t.cols (k:Int) wr (HC.out.kept HB.out));have hkq:=zfa t q k;have hol:(z2q (zh (zn t q) k)).length<=k:=(by rw [z1r];exact z2V _ _);generalize sd t.cols k=p at KS hkq
  cases hp:zn t q k with
  | false =>
   have HL:Hid (z2q (zh (zn t q) (k+1))=z2q (zh (zn t q) k)):=(by rw [Hid,zf9 hp]);rw [hp] at hkq;clear hp;go_wp2_with fail
   refine KS.out.mono ?_;rintro e w1 ⟨rfl,hb1⟩;have HB1:=Hd (zg HB.out hb1);have HO1:=Hd (zH.of_owns HO.out |>.kept (fun j h0 _ _=>hb1.block j h0));clear hb1 s0;go_wp2;go_roundw
   case rel=>exact ⟨k+1,by go_num,by omega,by rw [HL.out];exact HO1.out.owns,HB1⟩
   case measure=>simp [intOf];omega
  | true =>
   have HL:Hid (z2q (zh (zn t q) (k+1))=z2q (zh (zn t q) k) ++ [(k:Int)]):=(by rw [Hid,ze7 hp,zd5]);rw [hp] at hkq;clear hp;generalize z2q (zh (zn t q) k)=xs at HO HL hol;go_wp2_with fail
   refine KS.out.mono ?_;rintro e w1 ⟨rfl,hb1⟩;have HB1:=Hd (zg HB.out hb1);have hO4:=(zH.of_owns HO.out |>.kept (fun j h0 _ _=>hb1.block j h0)).owns;have hsz:w.heap.size<=w1.heap.size:=HB1.out.size;clear hb1 s0;go_wp2_with (at_builtin;refine wpList_append_own _ rfl _ _ 42 rfl w.heap.size 3 i0 (int i64 0) 1 8 Tryz.underlying42 hi hz0 hz1 hz2 rfl (by decide) _ _ _ rfl (hO4.alloc _) ⟨w1.heap.size,0,none⟩ 1 1 [int i64 (k:Int)] rfl rfl ?c1 ?c2 ?c3 ?c4 ?c5 ?_)
   case c1 =>
    intro i u hi
    match i,hi with
    | 0,hi=>simp at hi;subst hi;simp [Addr.add]
   case c2=>intro u hu;simp at hu;subst hu;rfl
   case c3=>unfold maxLen;omega
   case c4=>omega
   case c5=>simp;omega
   intro v' w5 hown' hgrow' _;obtain ⟨hB5,_⟩:=z8S (Nat.le_refl _) hO4 HB1.out hgrow';have HB5:=Hd hB5;have HO5:Hid (w5.ownsRow w.heap.size 3 1 v' (xs ++ [(k:Int)]).length ((xs ++ [(k:Int)]).map (Value.int .i64))):=(by rw [List.length_append,List.map_append];exact hown');obtain ⟨g',cap'',rfl⟩:=Joins.ownsRow_form hown' (by omega);clear hown' hgrow' hO4 hB5 HO HB HB1;go_wp2;go_roundw
   case rel=>exact ⟨k+1,by go_num,by omega,by rw [HL.out];exact HO5,HB5⟩
   case measure=>simp [intOf];omega
end
section
open Go.RowKit Go.BigFrame
theorem z3v {G:List Int} (h:G.all wtB=true) (i:Nat):0<=G.getD i 0/\G.getD i 0<=100000:=by
 by_cases hi:i < G.length
 ·exact z2Y h hi
 ·rw [show G.getD i 0=0 by simp [List.getD,hi]];omega
theorem z5K (sb:Nat) (ac ar:Option Addr) (cc cr:Nat) (t:T) (width:Int) (g cap C:Nat) (left:Int) (L G:List Int) (js:List Nat) (vc vg:Value) (B D B1:Nat) (hLC:L.length=C) (hjC:∀ k,k < js.length->js.getD k 0 < C) (hjl:js.length<=88) (hGl:G.length=js.length)
  (hLs:L.all wtB=true) (hGs:G.all wtB=true) (hl:0<=left/\left<=100000) (hgD:g < D) (hDs:D<=sb) (hs1:sb < B1) (w:World) (hS:Sp w sb ac ar cc cr t width g cap C left) (hR:zH w B D (.slice (some ⟨g,0,none⟩) C cap) L) (h1:zH w B1 w.heap.size vc (z2q js)) (h2:zH w B1 w.heap.size vg G) :
  Calls Tryz.prog 86 #[.pointer (some ⟨sb,0,none⟩),vc,vg] w fun e w'=>e=.returned (.tuple #[])/\Sp w' sb ac ar cc cr t width g cap C (left - G.sum)/\zH w' B D (.slice (some ⟨g,0,none⟩) C cap) (z0o L js G js.length)/\Bk2 g sb w w':=by
 have hmx:Tryz.prog.follows .mixedOrders=true:=(by kernel_rfl);obtain ⟨a1,c1,rfl⟩:=h1.form;obtain ⟨a2,c2,rfl⟩:=h2.form;rw [z1r] at h1 |-;rw [hGl] at h2 |-;have HGl:=Hd hGl;have H1:=Hd h1;have H2:=Hd h2;have HS:=Hd hS;have HR:=Hd hR;have HSm:=Hd (fun k i=>z4N (js:=js) (M:=100000) (N:=100000) (by omega) (z3v hLs) (z3v hGs) k i);have HSu:=Hd (z3M hGs);have HGg:=Hd (z3v hGs);have HjC:=Hd hjC;have HE:Hid (left - G.sum=left - zx G js.length):=(by rw [Hid,<-hGl,z12]);have HSu:Hid (∀ k,k<=js.length->0<=zx G k/\zx G k<=k * 100000):=fun k hk=>HSu.out k (by omega);clear h1 h2 hS hR hLs hGs hjC hGl;go_enter Tryz.func86,Tryz.ntmps86;go_wp2_with fail
 go_loopw [10] (fun s W=>∃ k:Nat,s=int i64 k/\k<=js.length/\Hid (Sp W sb ac ar cc cr t width g cap C (left - zx G k))/\Hid (zH W B D (.slice (some ⟨g,0,none⟩) C cap) (z0o L js G k))/\Hid (Bk2 g sb w W)) (fun s _=>js.length - (intOf s).toNat)
 case atStart=>exact ⟨0,rfl,Nat.zero_le _,by rw [show left - zx G 0=left by simp [zx]];exact HS,HR,Bk2.refl _ _ _⟩
 case round =>
  clear HS HR;obtain ⟨k,rfl,hk,HS,HR,HB⟩:=hrel;by_cases hlt:k < js.length
  case neg =>
   obtain rfl:k=js.length:=by omega
   go_wp2
   first
    | go_end0
    | skip
   exact ⟨rfl,by rw [HE.out];exact HS.out,HR.out,HB.out⟩
  obtain ⟨b1,c1',e1,hb1B,_,hb1w,hc11,hc12,hx1,_⟩:=(H1.out.bk2 HB.out (.inl (by omega)) (.inl hs1)).get (i:=k) (by rw [z1r];exact hlt);rw [z1r] at e1 hc11;rw [z72 hlt] at hx1;simp only [Value.slice.injEq,true_and] at e1;obtain ⟨rfl,rfl⟩:=e1;obtain ⟨b2,c2',e2,hb2B,_,hb2w,hc21,hc22,hx2,_⟩:=(H2.out.bk2 HB.out (.inl (by omega)) (.inl hs1)).get (i:=k) (by rw [HGl.out];exact hlt);rw [HGl.out] at e2 hc21;simp only [Value.slice.injEq,true_and] at e2;obtain ⟨rfl,rfl⟩:=e2;have hj:=HjC.out k hlt;have hgs:=z3p L js G k;obtain ⟨g',cap',e3,hgB,_,hgw,hc31,hc32,hx3,hf3⟩:=HR.out.get (i:=js.getD k 0) (by omega);rw [hgs,hLC] at e3 hc31;simp only [Value.slice.injEq,Option.some.injEq,Addr.mk.injEq,and_true,true_and] at e3;obtain ⟨rfl,rfl⟩:=e3;have hs3:=HSm.out k (js.getD k 0);have hy:=HGg.out k;have hsu:=HSu.out k (by omega);have HG1:Hid (z0o L js G (k+1)=(z0o L js G k).set (js.getD k 0) ((z0o L js G k).getD (js.getD k 0) 0+G.getD k 0)):=rfl;have HG2:Hid (left - zx G (k+1)=left - zx G k - G.getD k 0):=(by rw [Hid,z0E (by rw [HGl.out];exact hlt)];omega);unfold maxLen at hc12 hc22 hc32;have hne:=z1e wr;have m0:=zj (a:=⟨sb,6,none⟩) HS.out.lt (zf (p:=6) HS.out);have m1:=zj (a:=⟨g,js.getD k 0,none⟩) hgw hx3;have m2:=zj (a:=⟨b2,k,none⟩) hb2w hx2;generalize zx G k=su at HS hsu HG2;generalize hjj:js.getD k 0=j at *;generalize hxx:(z0o L js G k).getD j 0=x at *;generalize hyy:G.getD k 0=y at *;clear hx2 hx3 hf3;go_upto_region 3 with fail
  clear hx1;refine z1p 13 hmx (by rfl) (by rfl) (by kernel_rfl) (by kernel_rfl) ?_;simp only [List.take_succ_cons,List.take_zero];repeat (go_big_quiet_step (fail))
  refine wpQuiet_nil ?_;intro W5 hw';obtain ⟨⟨Wx,hW5⟩,hw''⟩:=hw';subst hw'';have hlj:j < (z0o L js G k).length:=(by omega);have HR5:=Hd ((HR.out.kept (fun i h0 _ _=>hW5.block i h0)).set (i:=j) hlj (x+y));rw [<-HG1.out] at HR5;have HS5:=Hd ((HS.out.kept hW5).other (p:=⟨g,j,none⟩) (show sb ≠ g by omega) (int i64 (x+y)));have HB5:=Hd ((HB.out.trans (Bk2.of_below hW5)).set (p:=⟨g,j,none⟩) (.inl rfl) (int i64 (x+y)));obtain ⟨g5,cap5,e5,_,_,hgw5,_,_,hx5,hf5⟩:=(HR.out.kept (fun i h0 _ _=>hW5.block i h0)).get (i:=j) hlj;simp only [Value.slice.injEq,Option.some.injEq,Addr.mk.injEq,and_true] at e5;have eg:=e5.1;clear e5;subst eg;clear m0 m1 m2 hne hW5 HR HS HB HG1 hs3;rw [if_pos (by rfl)];go_simp;clear hx5 hf5;go_upto_region 4 with fail
  generalize W5.setCell ⟨g,j,none⟩ (int i64 (x+y))=W6 at HR5 HS5 HB5 |-;obtain ⟨b2',c2'',e2,_,_,hb2w',_,_,hx2,_⟩:=(H2.out.bk2 HB5.out (.inl (by omega)) (.inl hs1)).get (i:=k) (by rw [HGl.out];exact hlt);rw [HGl.out] at e2;simp only [Value.slice.injEq,Option.some.injEq,Addr.mk.injEq,and_true,true_and] at e2;obtain ⟨rfl,rfl⟩:=e2;rw [hyy] at hx2;have hne:=z1e W6;have m0:=zj (a:=⟨sb,7,none⟩) HS5.out.lt (zf (p:=7) HS5.out);have m2:=zj (a:=⟨b2,k,none⟩) hb2w' hx2;clear hx2;refine z1p 11 hmx (by rfl) (by rfl) (by kernel_rfl) (by kernel_rfl) ?_;simp only [List.take_succ_cons,List.take_zero];repeat (go_big_quiet_step (fail))
  refine wpQuiet_nil ?_;intro W7 hw';obtain ⟨⟨Wy,hW7⟩,hw''⟩:=hw';subst hw'';have HR7:=Hd ((HR5.out.kept (fun i h0 _ _=>hW7.block i h0)).kept (w':=W7.setCell ⟨sb,7,none⟩ (int i64 (left - su - y))) (fun i _ _ h2=>Below.heap_setCell _ _ _ _ (show i ≠ sb by omega)));have HS7:=Hd ((HS5.out.kept hW7).left (left - su - y));have HB7:=Hd ((HB5.out.trans (Bk2.of_below hW7)).set (p:=⟨sb,7,none⟩) (.inr rfl) (int i64 (left - su - y)));have hq7:W7.cell? ⟨sb,7,none⟩=some (int i64 (left - su)):=zf (p:=7) (HS5.out.kept hW7);have hf7:W7.frozen? ⟨sb,7,none⟩=false:=zr (p:=7) (HS5.out.kept hW7);clear m0 m2 hne hW7 HR5 HS5 HB5;rw [if_pos (by rfl)];go_simp;go_wp2;go_roundw
  case rel=>exact ⟨k+1,by go_num,by omega,by rw [HG2.out];exact HS7,HR7,HB7⟩
  case measure=>simp [intOf];omega
def z4q (t:T) (C:Nat) (left:Int) (L:List Int):List Int :=
 if 0 < (zh (zn t 0) C).length then z1d L (zo left (z0U (zn t 0) C)) else if 0 < (zh (zn t 2) C).length then z1d L (zo left (z0U (zn t 2) C)) else L
theorem z8i:∀ {l:List Int},(∀ x ∈ l,0<=x)->0<=l.sum
 | [],_=>by simp
 | a :: r,h=>by
  have h1:=h a (by simp);have h2:=z8i (l:=r) (fun x hx=>h x (by simp [hx]));simp only [List.sum_cons];omega
theorem zd6:∀ {l:List Int},(∀ x ∈ l,0<=x)->∀ x ∈ l,x<=l.sum
 | [],_,x,hx=>by cases hx
 | a :: r,h,x,hx=>by
  have h1:=h a (by simp);have h2:=z8i (l:=r) (fun x hx=>h x (by simp [hx]));simp only [List.sum_cons]
  rcases List.mem_cons.1 hx with rfl | hx
  ·omega
  ·have:=zd6 (l:=r) (fun x hx=>h x (by simp [hx])) x hx;omega
theorem zaj {l:List Int} (h:∀ i,i < l.length->0<=l.getD i 0) {i:Nat} (hi:i < l.length):l.getD i 0<=l.sum:=by
 rw [show l.getD i 0=l[i] by simp [List.getD,hi]];refine zd6 (fun x hx=>?_) _ (List.getElem_mem hi);obtain ⟨j,hj,rfl⟩:=List.mem_iff_getElem.1 hx;have:=h j hj
 rwa [show l.getD j 0=l[j] by simp [List.getD,hj]] at this
theorem z7O {L:List Int} {P:Nat->Bool} {left:Int} {C:Nat} (hLC:L.length=C) (hC:C<=88) (ht:0<=left/\left<=100000) :
  zt left (List.replicate (zh P C).length 0)=true/\(zo left (List.replicate (zh P C).length 0)).length=(zh P C).length/\(zo left (List.replicate (zh P C).length 0)).all wtB=true /\
  (0 < (zh P C).length->z0o L (zh P C) (zo left (List.replicate (zh P C).length 0)) (zh P C).length=z1d L (zo left (z0U P C)))/\((zh P C).length=0->z0o L (zh P C) (zo left (List.replicate (zh P C).length 0)) (zh P C).length=L):=by
 have hnl:=z2V P C;have hok:zt left (List.replicate (zh P C).length 0)=true:=zbL ht (by simp;omega) (fun i hi=>by rw [List.length_replicate] at hi;simp [List.getD,hi]);have hl:=z17 hok;rw [List.length_replicate] at hl;refine ⟨hok,hl,?_,fun h0=>?_,fun h0=>by rw [h0];rfl⟩
 ·by_cases h0:0 < (zh P C).length
  ·refine z5l (fun i hi=>?_);have h1:=z1y (t:=left) (l:=List.replicate (zh P C).length 0) i hi;have h2:=z2C hok (by simpa using h0);have h3:=zaj (l:=zo left (List.replicate (zh P C).length 0)) (fun j hj=>(z1y (t:=left) (l:=List.replicate (zh P C).length 0) j hj).1) hi;omega
  ·have:zo left (List.replicate (zh P C).length 0)=[]:=List.eq_nil_of_length_eq_zero (by omega);rw [this];rfl
 ·rw [z7y P ht (by omega) h0];have hok1:=z6s P (n:=C) ht (by omega);have h1:=z17 hok1;rw [z1o] at h1;have:=z9X (l:=L) (more:=zo left (z0U P C)) (P:=P) (by omega) (fun i hi hP=>z4e hok1 (by rw [z9Y];omega) (by rw [z1o];omega) (by rw [z4K (by omega),if_neg (by rw [hP];simp)]));rw [hLC] at this;exact this
theorem z9e (w0:World) (sb:Nat) (ac ar:Option Addr) (cc cr:Nat) (t:T) (width:Int) (g cap C D:Nat) (left:Int) (L:List Int) {z:Nat} (hc:zY w0 z (.slice ac t.cols.length cc) t.cols) (hC:C<=88) (hLC:L.length=C) (hLs:L.all wtB=true) (hg0:w0.heap.size<=g) (hgD:g < D) (hDs:D<=sb) (hleft:0<=left/\left<=100000) (w:World) (h:SpS w0 sb ac ar cc cr t width g cap C D left L w) :
  Calls Tryz.prog 70 #[.pointer (some ⟨sb,0,none⟩)] w fun e w'=>e=.returned (.tuple #[])/\(∃ left',SpS w0 sb ac ar cc cr t width g cap C D left' (z4q t C left L) w')/\Bk2 g sb w w':=by
 have H:=Hd h;have hsbw:sb < w.heap.size:=h.sp.lt;have HB0:=Hd (Below.refl w.heap.size w);have KO:=Hd (fun q W (h:SpS w0 sb ac ar cc cr t width g cap C D left L W)=>z5J sb ac ar cc cr t width g cap C left q hC W h.sp (hc.kept h.bel));clear h hc;by_cases hn0:0 < (zh (zn t 0) C).length
 ·have hne:(((zh (zn t 0) C).length:Int) == 0)=false:=beq_eq_false_iff_ne.2 (by omega);go_enter Tryz.func70,Tryz.ntmps70;go_wp2_with fail
  refine (KO.out 0 _ H.out).mono ?_;rintro e w1 ⟨v1,rfl,hr1,hb1⟩;obtain ⟨a1,c1,rfl⟩:=hr1.form;rw [z1r] at hr1 |-;have HS1:=Hd (H.out.kept hb1);have HB1:=Hd (zg HB0.out hb1);have HR1:=Hd hr1;have hz1:=hb1.size;have hmk:=z4R (zh (zn t 0) C).length (by have:=z2V (zn t 0) C;omega);have hnl:=z2V (zn t 0) C;obtain ⟨ok1,len1,all1,give1,give0⟩:=z7O (P:=zn t 0) (L:=L) (left:=left) hLC hC hleft;have HLt:=Hd (fun k (hk:k < (zh (zn t 0) C).length)=>(z6w hk).1)
  have HFin:Hid (z0o L (zh (zn t 0) C) (zo left (List.replicate (zh (zn t 0) C).length 0)) (zh (zn t 0) C).length=z4q t C left L):=by
   rw [Hid,z4q];rw [if_pos hn0];exact give1 hn0
  have HA1:=Hd all1;have HLn:=Hd len1;have HOk:=Hd ok1;generalize zh (zn t 0) C=js at hr1 HR1 hmk hnl HLt HFin HA1 HLn HOk hne hn0 |-;clear hr1 hb1 ok1 len1 all1 give1 give0;have hA2:=ze (Below.refl w1.heap.size w1) (.cells (z0G js.length) 3);have HN:=Hd (z3L w1 js.length (by omega));have hn2:(w1.alloc (.cells (z0G js.length) 3)).heap.size=w1.heap.size+1:=(by simp);have HS2:=Hd (HS1.out.kept hA2);have HR2:=Hd (HR1.out.kept (w':=w1.alloc (.cells (z0G js.length) 3)) (fun j h0 _ _=>hA2.block j h0));have HB2:=Hd (zg HB1.out hA2);clear HS1 HR1 HB1 hA2;go_upto_region 4 with fail
  generalize w1.alloc (.cells (z0G js.length) 3)=W2 at HN HS2 HR2 HB2 hn2 |-;generalize w1.heap.size=gb at HN HR2 hn2 hz1 |-;have s7:W2.cell? ⟨sb,7,none⟩=some (int i64 left):=zf (p:=7) HS2.out.sp;have KU:=Hd (z3s left _ _ HOk.out W2 HN.out.at);go_wp2_with fail
  refine KU.out.mono ?_;rintro e w5 ⟨v5,rfl,hr5,hb5⟩;obtain ⟨a5,c5,rfl⟩:=hr5.form;have hz5:=hb5.size;generalize zo left (List.replicate js.length 0)=G at hr5 HFin HA1 HLn KU |-;have KG:=Hd (z5K sb ac ar cc cr t width g cap C left L G js (.slice a1 js.length c1) (.slice a5 G.length c5) w0.heap.size D w.heap.size hLC HLt.out (by omega) HLn.out hLs HA1.out hleft hgD hDs hsbw w5 (HS2.out.kept hb5).sp (HS2.out.kept hb5).row ((HR2.out.kept (fun j h0 _ _=>hb5.block j h0)).base (by omega) (by omega)) (hr5.base (by omega) (Nat.le_refl _)));have HB6:=Hd (zg HB2.out hb5);have HL6:=Hd ((HS2.out.kept hb5).bel);clear KU s7;go_wp2_with fail
  refine KG.out.mono ?_;rintro e w6 ⟨rfl,hs6,hr6,hb6⟩;have HF6:=Hd (SpS.mk (HL6.out.trans (hb6.below HL6.out.size hg0 (by omega))) hs6 hr6);rw [HFin.out] at HF6;have HK6:=Hd ((Bk2.of_below HB6.out).trans hb6);clear hs6 hr6 hb6;go_wp2
  go_end0
  exact ⟨rfl,⟨_,HF6.out⟩,HK6.out⟩
 ·have hl0:(zh (zn t 0) C).length=0:=(by omega);go_enter Tryz.func70,Tryz.ntmps70;go_wp2_with fail
  refine (KO.out 0 _ H.out).mono ?_;rintro e wa ⟨va,rfl,hra,hba⟩;obtain ⟨aa,ca,rfl⟩:=hra.form;rw [z1r,hl0] at hra |-;have Ha:=Hd (H.out.kept hba);have HBa:=Hd hba;have hza:=hba.size;clear hra hba;go_wp2_with fail
  refine (KO.out 2 _ Ha.out).mono ?_;rintro e w1 ⟨v1,rfl,hr1,hb1⟩;obtain ⟨a1,c1,rfl⟩:=hr1.form;rw [z1r] at hr1 |-;have HS1:=Hd (Ha.out.kept hb1);have HB1:=Hd (zg HBa.out hb1);have HR1:=Hd hr1;have hz1:=hb1.size;have hmk:=z4R (zh (zn t 2) C).length (by have:=z2V (zn t 2) C;omega);have hnl:=z2V (zn t 2) C;obtain ⟨ok1,len1,all1,give1,give0⟩:=z7O (P:=zn t 2) (L:=L) (left:=left) hLC hC hleft;have HLt:=Hd (fun k (hk:k < (zh (zn t 2) C).length)=>(z6w hk).1)
  have HFin:Hid (z0o L (zh (zn t 2) C) (zo left (List.replicate (zh (zn t 2) C).length 0)) (zh (zn t 2) C).length=z4q t C left L):=by
   rw [Hid,z4q];rw [if_neg hn0];by_cases hn2:0 < (zh (zn t 2) C).length
   ·rw [if_pos hn2];exact give1 hn2
   ·rw [if_neg hn2];exact give0 (by omega)
  have HA1:=Hd all1;have HLn:=Hd len1;have HOk:=Hd ok1;generalize zh (zn t 2) C=js at hr1 HR1 hmk hnl HLt HFin HA1 HLn HOk |-;clear hr1 hb1 ok1 len1 all1 give1 give0;have hA2:=ze (Below.refl w1.heap.size w1) (.cells (z0G js.length) 3);have HN:=Hd (z3L w1 js.length (by omega));have hn2:(w1.alloc (.cells (z0G js.length) 3)).heap.size=w1.heap.size+1:=(by simp);have HS2:=Hd (HS1.out.kept hA2);have HR2:=Hd (HR1.out.kept (w':=w1.alloc (.cells (z0G js.length) 3)) (fun j h0 _ _=>hA2.block j h0));have HB2:=Hd (zg HB1.out hA2);clear HS1 HR1 HB1 hA2;go_upto_region 4 with fail
  generalize w1.alloc (.cells (z0G js.length) 3)=W2 at HN HS2 HR2 HB2 hn2 |-;generalize w1.heap.size=gb at HN HR2 hn2 hz1 |-;have s7:W2.cell? ⟨sb,7,none⟩=some (int i64 left):=zf (p:=7) HS2.out.sp;have KU:=Hd (z3s left _ _ HOk.out W2 HN.out.at);go_wp2_with fail
  refine KU.out.mono ?_;rintro e w5 ⟨v5,rfl,hr5,hb5⟩;obtain ⟨a5,c5,rfl⟩:=hr5.form;have hz5:=hb5.size;generalize zo left (List.replicate js.length 0)=G at hr5 HFin HA1 HLn KU |-;have KG:=Hd (z5K sb ac ar cc cr t width g cap C left L G js (.slice a1 js.length c1) (.slice a5 G.length c5) w0.heap.size D w.heap.size hLC HLt.out (by omega) HLn.out hLs HA1.out hleft hgD hDs hsbw w5 (HS2.out.kept hb5).sp (HS2.out.kept hb5).row ((HR2.out.kept (fun j h0 _ _=>hb5.block j h0)).base (by omega) (by omega)) (hr5.base (by omega) (Nat.le_refl _)));have HB6:=Hd (zg HB2.out hb5);have HL6:=Hd ((HS2.out.kept hb5).bel);clear KU s7;go_wp2_with fail
  refine KG.out.mono ?_;rintro e w6 ⟨rfl,hs6,hr6,hb6⟩;have HF6:=Hd (SpS.mk (HL6.out.trans (hb6.below HL6.out.size hg0 (by omega))) hs6 hr6);rw [HFin.out] at HF6;have HK6:=Hd ((Bk2.of_below HB6.out).trans hb6);clear hs6 hr6 hb6;go_wp2
  go_end0
  exact ⟨rfl,⟨_,HF6.out⟩,HK6.out⟩
end
section
open Go.RowKit
theorem z91 {L M:List Int} (hl:M.length=L.length) (hs:M.sum=0) (hp:∀ i,i < M.length->0<=M.getD i 0):z1d L M=L:=by
 apply zae (z4L hl);intro i hi;rw [z4L hl] at hi;rw [z3J hl hi];have h1:=zaj hp (i:=i) (by omega);have h2:=hp i (by omega);omega
theorem zd7 {L want:List Int} (hl:want.length=L.length) (hok:zt 0 want=true):z1d L (z0m 0 want)=L/\z23 0 want=0:=by
 obtain ⟨a1,a2,a3,a4,a5⟩:=z1K hok;have hp:∀ i,i < (z0m 0 want).length->0<=(z0m 0 want).getD i 0:=fun i hi=>(a5 i (by omega)).1
 have hs:0<=(z0m 0 want).sum:=z8i (fun x hx=>by
  obtain ⟨j,hj,rfl⟩:=List.mem_iff_getElem.1 hx;have:=hp j hj
  rwa [show (z0m 0 want).getD j 0=(z0m 0 want)[j] by simp [List.getD,hj]] at this)
 exact ⟨z91 (by omega) (by omega) hp,by omega⟩
theorem z7P {L:List Int} {P:Nat->Bool} {C:Nat} (hLC:L.length=C) (hC:C<=88) (h0:0 < (zh P C).length):z1d L (zo 0 (z0U P C))=L:=by
 have hok:=z6s P (n:=C) (t:=0) (by omega) (by omega);have hl:=z17 hok;rw [z1o] at hl;have hC0:0 < C:=(by have:=z2V P C;omega);exact z91 (by omega) (z2C hok (by rw [z1o];exact hC0)) (fun i hi=>(z1y i hi).1)
theorem zd8 {t:T} {C:Nat} {L:List Int} (hLC:L.length=C) (hC:C<=88):z4q t C 0 L=L:=by
 unfold z4q
 split
 ·rename_i h;exact z7P hLC hC h
 ·split
  ·rename_i h;exact z7P hLC hC h
  ·rfl
theorem zak {t:T} {width:Int} (h:0 < z0p t width):zQ t width=z4q t (zz t) (z24 t width) (z1i t width):=by
 unfold zQ z4q;rw [if_neg (by omega)]
theorem zbm {t:T} (hD:z0b t) (hok:zq t=true) {width:Int} (hw:0<=width/\width<=300) (hC:zz t<=88) (h:0 < z0p t width) (h2:z24 t width<=0):zQ t width=z1i t width:=by
 obtain ⟨_,_,hl2,_,ho2,_⟩:=z3f hD hok hw h;have e:z24 t width=0:=(by omega);rw [zak h,e,zd8 ho2 hC]
theorem zfb {t:T} (hD:z0b t) (hok:zq t=true) {width:Int} (hw:0<=width/\width<=300) (hC:zz t<=88) (h:0 < z0p t width) (h1:z1E t width<=0):zQ t width=z0R t width:=by
 obtain ⟨ok1,ok2,hl2,ho1,ho2,_⟩:=z3f hD hok hw h
 have e:z1E t width=0:=by
  have:=(z1K ok1).2.2.1;unfold z1E at h1 |-;omega
 have e2:z1i t width=z0R t width/\z24 t width=0:=by
  unfold z1i z24;rw [e] at ok2 |-;exact zd7 (z2M _ _) ok2
 rw [zbm hD hok hw hC h (by omega),e2.1]
theorem zfC {t:T} {width:Int} (h:z0p t width<=0):zQ t width=zu t:=by unfold zQ;rw [if_pos h]
theorem zd9 {t:T} (hD:z0b t) (hok:zq t=true) {width:Int} (hw:0<=width/\width<=300) (h:0 < z0p t width) {j:Nat} (hj:j < zz t) (hP:zn t 0 j=true):(z0R t width).getD j 0<=(z2n t).getD j 0:=by
 obtain ⟨_,_,_,_,_,_,hk⟩:=z3f hD hok hw h
 have h2:zn t 2 j=false:=by
  simp only [zn,decide_eq_true_eq] at hP;simp [zn,hP]
 rw [(hk j hj).2.2.1 h2];have:=z8K hj;omega
theorem zbV {t:T} (hD:z0b t) (hok:zq t=true) {width:Int} (hw:0<=width/\width<=300) (h:0 < z0p t width):(z0R t width).all wtB=true/\(z1i t width).all wtB=true:=by
 obtain ⟨ok1,ok2,_,ho1,ho2,_⟩:=z3f hD hok hw h;have hup:=z2K hD;obtain ⟨a1,a2,a3,a4,a5⟩:=z1K ok1;obtain ⟨b1,b2,b3,b4,b5⟩:=z1K ok2;rw [z3e] at a1 a5;rw [z2M] at b1 b5;have hr:z0p t width<=100000:=(z09 ok1).1.2;have hl:z1E t width<=100000:=(z09 ok2).1.2;have hll:=z1b t
 have s1:∀ i,i < zz t->0<=(z0R t width).getD i 0/\(z0R t width).getD i 0<=5300:=fun i hi=>by
  have h1:=a5 i (by omega);have h2:=hup i (by omega);have h3:(z0R t width).getD i 0=(zu t).getD i 0+(z0m (z0p t width) (z1C t width (zu t))).getD i 0:=(by unfold z0R;exact z3J (by omega) (by omega));rw [z42 (by omega)] at h1;have hk:=z6t (t:=t) hi;have hps:=fun hn=>z7z hw (n:=(sd t.cols i).2) hn
  split at h1
  ·rename_i hP
   simp only [zn,decide_eq_true_eq] at hP;have:=hps (by omega);omega
  ·omega
 refine ⟨z5l (fun i hi=>by have:=s1 i (by omega);omega),z5l (fun i hi=>?_)⟩;have h1:=b5 i (by omega);have h2:=s1 i (by omega);have h3:(z1i t width).getD i 0=(z0R t width).getD i 0+(z0m (z1E t width) (z1D t (z0R t width))).getD i 0:=(by unfold z1i;exact z3J (by omega) (by omega));rw [z43 (by omega)] at h1;have h4:=z6Z hD i (by rw [z4Y];omega)
 split at h1 <;> omega
theorem z53 {t:T} (hD:z0b t) (hok:zq t=true):1<=zz t/\zz t<=88/\z1F (zu t) t.gap=(zu t).sum+t.gap * ((zz t:Int) - 1)/\0<=z1F (zu t) t.gap/\z1F (zu t) t.gap<=1000000/\(zu t).all wtB=true:=by
 obtain ⟨_,C,hgc,hC,hcel⟩:=z3n hD;have hCN:=z4y hgc;have hlen:=z1b t;have hup:=z2K hD;have hall:(zu t).all wtB=true:=z5l (fun i hi=>by have:=hup i hi;omega);have hs:=z2B hall
 have hC1:1<=zz t:=by
  have h1:(gOf t).cols=z0v (max 1 (t.cols.length:Int)) (zN t):=(by rw [z3k hok]);have h2:=z3b (zN t) (max 1 (t.cols.length:Int));unfold zz;omega
 have hg:0<=t.gap/\t.gap<=3:=by
  simp only [zq,inB,Bool.and_eq_true,decide_eq_true_eq] at hok;exact hok.2.2.1
 have hg1:0<=t.gap * ((zz t:Int) - 1):=Int.mul_nonneg hg.1 (by omega);have hg2:t.gap * ((zz t:Int) - 1)<=3 * 87:=Int.mul_le_mul hg.2 (by omega) (by omega) (by omega);have hsb:=z4v (l:=zu t) (B:=5000) (fun x hx=>hup.mem hx)
 have e:z1F (zu t) t.gap=(zu t).sum+t.gap * ((zz t:Int) - 1):=by
  rw [z3W (by omega),hlen,z5d (by omega)]
 refine ⟨hC1,by omega,e,by omega,?_,hall⟩;rw [e];omega
end
end Go.Proofs.YtggmjiddadjilalGreat
