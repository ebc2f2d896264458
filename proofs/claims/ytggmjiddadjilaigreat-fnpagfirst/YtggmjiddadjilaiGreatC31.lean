/-
  PROVED HERE: the program's wideEnough at a drawn table: the list 'needTo', in memory of its own; nothing that was in memory is turned. Also: 11 more texts of the same proof.
-/
import Derived.Test.YtggmjiddadjilaiGreatC30
set_option maxRecDepth 1000000
set_option maxHeartbeats 40000000
namespace Go.Proofs.YtggmjiddadjilaiGreat
section
open Go.RowKit Go.BigFrame
theorem z5Z (F:Nat) (hF:F=108∨F=138) (nd:ByteArray→Int) (hnd:∀ s,0≤nd s∧nd s≤30) (KN:∀ (s:ByteArray) (W:World),s.size≤maxLen→Calls Tryz.prog F #[.string s] W fun e w'=>e=.returned (.int .i64 (nd s))∧Below W.heap.size W w')
  (ac ar:Option Addr) (cc cr:Nat) (t:T) (hD:zY t) (w:World) {z:Nat} (hc:zX w z (.slice ac t.cols.length cc) t.cols) (hr:zT w z (.slice ar t.rows.length cr) t.rows) (C:Nat) (hgc:(gOf t).cols=C) :
  Calls Tryz.prog 107 #[.agg #[.slice ac t.cols.length cc,.int .i64 t.head,.int .i64 t.foot,.slice ar t.rows.length cr,.int .i64 t.gap],.func (.func F) #[] #[]] w fun e w'=>∃ v,e=.returned v∧zz w' w.heap.size w'.heap.size v (z1u (fun x=>nd (zL t x)) t.gap (gOf t).cells (z0t C) 4)∧Below w.heap.size w w':=by
 rcases hF with rfl | rfl
 all_goals
  obtain ⟨h40,C',hgc',hC88,hcel⟩:=z3Q hD;obtain rfl:C'=C:=by rw [hgc'] at hgc;omega
  have K0:=ze (Below.refl w.heap.size w) (.cells #[.slice ac t.cols.length cc,.int .i64 t.head,.int .i64 t.foot,.slice ar t.rows.length cr,.int .i64 t.gap] 33);have HN:=Hd KN;have HCel:=Hd hcel;have HDr:=Hd hD;have HGC:=Hd hgc';have hup:=z96 (p:=fun x=>nd (zL t x)) (l:=z0t C') hcel h40 (by simp [z0t]) (fun x=>(hnd _).2) (zcD _);have HUp:=Hd hup;have hps:=fun s hs=>z95 (p:=fun x=>nd (zL t x)) (s:=((s+1:Nat):Int)) (l:=z1u (fun x=>nd (zL t x)) t.gap (gOf t).cells (z0t C') s) hcel (by rw [z3P];simp [z0t]) (fun x=>(hnd _).2) (hup s hs);have HPs:=Hd hps;have HT:=Hd (And.intro (hc.kept K0) (hr.kept K0));have HX:=Hd (zl w (.cells #[.slice ac t.cols.length cc,.int .i64 t.head,.int .i64 t.foot,.slice ar t.rows.length cr,.int .i64 t.gap] 33));have HK:=Hd K0;have hmk:=z5x C' (by omega);have hmx:Tryz.prog.follows .mixedOrders=true:=(by kernel_rfl);clear hcel hD hup hps hc hr K0 KN hgc' hgc;go_enter Tryz.func107,Tryz.ntmps107;go_wp2_with fail
  refine (z5t ac ar cc cr t HDr.out _ HT.out.1 HT.out.2).mono ?_;rintro e w2 ⟨vg,rfl,hO2,hb2⟩;obtain ⟨ag,cg,rfl⟩:=z5r hO2;have hG2:=hO2.at (z77 HDr.out)
  have HW:Hid (Ws w z w2.heap.size ac ar cc cr t ag cg (w2.alloc (.cells #[.int .i64 (gOf t).rows,.int .i64 (gOf t).cols,.slice ag (gOf t).cells.length cg] 56))) :=
   ⟨ze (zh HK.out hb2) _,⟨(HT.out.1.kept hb2).kept (ze (Below.refl _ _) _),(HT.out.2.kept hb2).kept (ze (Below.refl _ _) _)⟩,(Below.heap_alloc _ _ _ (Nat.lt_of_lt_of_le (by simp) hb2.size)).trans ((hb2.block w.heap.size (by simp)).trans HX.out),(hG2.base (by simp)).kept (ze (Below.refl _ _) _),zl _ _⟩
  have hz2:w.heap.size < w2.heap.size:=Nat.lt_of_lt_of_le (by simp) hb2.size;clear hO2 hb2 hG2 HT HX HK;go_upto_region 2 with fail
  generalize hW3:w2.alloc (.cells #[.int .i64 (gOf t).rows,.int .i64 (gOf t).cols,.slice ag (gOf t).cells.length cg] 56)=W3 at HW ⊢;have hz3:W3.heap.size=w2.heap.size+1:=(by rw [← hW3];simp);clear hW3;obtain ⟨y0,y1,y2,y3⟩:=HW.out.at;rw [HGC.out] at y2;go_wp2_with fail
  clear hmk y0 y1 y2 y3;have S0:Hid (zz (W3.alloc (.cells (z0G C') 3)) (w2.heap.size+1) (w2.heap.size+2) (.slice (some ⟨w2.heap.size+1,0,none⟩) C' C') (z0t C')):=(by have h:=z4c W3 C' (by omega);rw [hz3] at h;exact h);go_loopw [7] (fun s W=>∃ m:Nat,s=.int .i64 ((m:Int)+1)∧m≤4∧Hid (zz W (w2.heap.size+1) (w2.heap.size+2) (.slice (some ⟨w2.heap.size+1,0,none⟩) C' C') (z1u (fun x=>nd (zL t x)) t.gap (gOf t).cells (z0t C') m))∧Hid (Below W3.heap.size W3 W)∧W3.heap.size < W.heap.size) (fun s _=>5 - (intOf s).toNat)
  case atStart=>exact ⟨0,rfl,by omega,S0,ze (Below.refl _ _) _,by simp⟩
  case round =>
   clear S0;obtain ⟨m,rfl,hm,HR,HB,hsz⟩:=hrel;by_cases hlt:m < 4
   case neg =>
    obtain rfl:m=4:=by omega
    have hK:=Hd (HW.out.1.trans (HB.out.mono (by omega)));have HF:=Hd (HR.out.base (B':=w.heap.size) (D':=wr.heap.size) (by omega) (by omega));go_wp2;go_ret;exact ⟨_,rfl,HF.out,hK.out⟩
   have HWr:=Hd (HW.out.kept HB.out);obtain ⟨y0,y1,y2,y3⟩:=HWr.out.at;rw [HGC.out] at y2;go_wp2_with fail
   clear y0 y1 y2 y3 HWr;have HUm:=Hd (HPs.out m (by omega) (by omega));rw [show decide ((m:Int)+1≤4)=true by simp;omega];go_loopw [22] (fun s W=>∃ k:Nat,s=.int .i64 k∧k≤(gOf t).cells.length∧Hid (zz W (w2.heap.size+1) (w2.heap.size+2) (.slice (some ⟨w2.heap.size+1,0,none⟩) C' C') (z27 (fun x=>nd (zL t x)) t.gap ((m+1:Nat):Int) (gOf t).cells (z1u (fun x=>nd (zL t x)) t.gap (gOf t).cells (z0t C') m) k))∧Hid (Below W3.heap.size W3 W)∧W3.heap.size < W.heap.size) (fun s _=>(gOf t).cells.length - (intOf s).toNat)
   case atStart=>exact ⟨0,rfl,Nat.zero_le _,HR,HB,hsz⟩
   case round =>
    clear HR HB hsz;obtain ⟨k,rfl,hk,HR,HB,hsz⟩:=hrel;by_cases hkl:k < (gOf t).cells.length
    case neg =>
     obtain rfl:k=(gOf t).cells.length:=by omega
     go_wp2;go_roundw
     case rel=>exact ⟨m+1,by go_num,by omega,HR,HB,hsz⟩
     case measure=>simp [intOf];omega
    have HWr:=Hd (HW.out.kept HB.out);obtain ⟨b,off,cap',e',hc1,hc2,hbl,hx,_⟩:=At.get HWr.out.2.2.2.1 hkl;simp only [Value.slice.injEq,true_and] at e';obtain ⟨rfl,rfl⟩:=e';unfold maxLen at hc2;have HCe:=Hd (HCel.out k hkl);obtain ⟨⟨rn,jn,cn,mn,e1,e2,e3,e4,h1,h2,h3,h4,h5⟩,hgp,hrs⟩:=HCel.out k hkl;have HSz:Hid ((zL t ((gOf t).cells.getD k dG)).size≤maxLen):=za2 HCe.out HWr.out.2.1.2;have hub:=HUm.out k hk;have HNo:Hid ((mn:Int) ≠ ((m+1:Nat):Int)→z27 (fun x=>nd (zL t x)) t.gap ((m+1:Nat):Int) (gOf t).cells (z1u (fun x=>nd (zL t x)) t.gap (gOf t).cells (z0t C') m) (k+1)=z27 (fun x=>nd (zL t x)) t.gap ((m+1:Nat):Int) (gOf t).cells (z1u (fun x=>nd (zL t x)) t.gap (gOf t).cells (z0t C') m) k):=fun h=>by rw [z27,if_neg (by rw [e4];exact h)]
    have HYes:Hid ((mn:Int)=((m+1:Nat):Int)→z27 (fun x=>nd (zL t x)) t.gap ((m+1:Nat):Int) (gOf t).cells (z1u (fun x=>nd (zL t x)) t.gap (gOf t).cells (z0t C') m) (k+1)=z3N (z27 (fun x=>nd (zL t x)) t.gap ((m+1:Nat):Int) (gOf t).cells (z1u (fun x=>nd (zL t x)) t.gap (gOf t).cells (z0t C') m) k) cn mn t.gap (nd (zL t ((gOf t).cells.getD k dG)))):=fun h=>by rw [z27,if_pos (by rw [e4];exact h),e3,e4,Int.toNat_natCast,Int.toNat_natCast]
    have hpl:=z3O (fun x=>nd (zL t x)) t.gap ((m+1:Nat):Int) (gOf t).cells (z1u (fun x=>nd (zL t x)) t.gap (gOf t).cells (z0t C') m) k;rw [z3P,show (z0t C').length=C' by simp [z0t]] at hpl;generalize (gOf t).cells.getD k dG=x at hx e1 e2 e3 e4 HYes hrs HCe HSz;generalize hL:z27 (fun x=>nd (zL t x)) t.gap ((m+1:Nat):Int) (gOf t).cells (z1u (fun x=>nd (zL t x)) t.gap (gOf t).cells (z0t C') m) k=L at HR HNo HYes hub hpl;clear hL;have HKT:=Hd (fun (W:World) (hR:zT W z (.slice ar t.rows.length cr) t.rows)=>z8D ac ar cc cr t x HCe.out W hR);simp only [e1,e2,e3,e4] at HKT;obtain ⟨x0,x1,x2,x3,x4⟩:=hx;rw [e1] at x0;rw [e2] at x4;rw [e3] at x1;rw [e4] at x3;by_cases hms:(mn:Int)=(m:Int)+1
    case neg =>
     have hmb:((mn:Int) == (m:Int)+1)=false:=(by simpa using hms);have HL:=Hd (HNo.out (by omega));clear HNo HYes e1 e2 e3 e4 hms;go_wp2;go_roundw
     case rel=>exact ⟨k+1,by go_num,by omega,by rw [HL.out];exact HR.out.kept (fun j h0 _ _=>Below.heap_alloc _ _ _ h0),ze HB.out _,by simp;omega⟩
     case measure=>simp [intOf];omega
    obtain rfl:mn=m+1:=by omega
    have HL:=Hd (HYes.out rfl);have hmb:((m:Int)+1 == (m:Int)+1)=true:=(by simp);have hcast:((m+1:Nat):Int)=(m:Int)+1:=(by omega);rw [hcast] at x3;simp only [hcast] at HKT;clear hcast;clear HNo HYes e1 e2 e3 e4 hms;go_upto_region 10 with fail
    have HW4:Hid (Ws w z w2.heap.size ac ar cc cr t (some ⟨b,off,none⟩) cg (wr.alloc (.cells #[.int .i64 (rn:Int),.int .i64 (cn:Int),.int .i64 x.rows,.int .i64 ((m:Int)+1),.int .i64 (jn:Int)] 59))):=HWr.out.kept (ze (Below.refl _ _) _);have HB4:=Hd (ze HB.out (.cells #[.int .i64 (rn:Int),.int .i64 (cn:Int),.int .i64 x.rows,.int .i64 ((m:Int)+1),.int .i64 (jn:Int)] 59));have HR4:=Hd (HR.out.kept (fun j h0 _ _=>Below.heap_alloc wr (.cells #[.int .i64 (rn:Int),.int .i64 (cn:Int),.int .i64 x.rows,.int .i64 ((m:Int)+1),.int .i64 (jn:Int)] 59) j h0));have HX4:=Hd (zl wr (.cells #[.int .i64 (rn:Int),.int .i64 (cn:Int),.int .i64 x.rows,.int .i64 ((m:Int)+1),.int .i64 (jn:Int)] 59));have hsz4:W3.heap.size < (wr.alloc (.cells #[.int .i64 (rn:Int),.int .i64 (cn:Int),.int .i64 x.rows,.int .i64 ((m:Int)+1),.int .i64 (jn:Int)] 59)).heap.size:=(by simp;omega);generalize wr.alloc (.cells #[.int .i64 (rn:Int),.int .i64 (cn:Int),.int .i64 x.rows,.int .i64 ((m:Int)+1),.int .i64 (jn:Int)] 59)=W4 at HW4 HB4 HR4 HX4 hsz4 ⊢;generalize wr.heap.size=cb at HX4 ⊢;clear HWr HR HB hsz x0 x1 x2 x3 x4 hbl;have q1:W4.cell? ⟨cb,1,none⟩=some (.int .i64 (cn:Int)):=zf HX4.out;have hcb:cb < W4.heap.size:=(bL HX4.out);have htb:w.heap.size < W4.heap.size:=(bL HW4.out.2.2.1);obtain ⟨y0,y1,y2,y3⟩:=HW4.out.at;obtain ⟨t3,t4,t5,t6,t10,t11,t12,t13⟩:=zbZ h3 hC88;have hne:=z22 W4;have g0:=zt (a:=⟨cb,0,none⟩) hcb (zf (p:=0) HX4.out);have g1:=zt (a:=⟨cb,1,none⟩) hcb (zf (p:=1) HX4.out);have g2:=zt (a:=⟨cb,2,none⟩) hcb (zf (p:=2) HX4.out);have g3:=zt (a:=⟨cb,3,none⟩) hcb (zf (p:=3) HX4.out);have g4:=zt (a:=⟨cb,4,none⟩) hcb (zf (p:=4) HX4.out);have b0:=zt (a:=⟨w.heap.size,0,none⟩) htb (zf (p:=0) HW4.out.2.2.1);have b1:=zt (a:=⟨w.heap.size,1,none⟩) htb (zf (p:=1) HW4.out.2.2.1);have b2:=zt (a:=⟨w.heap.size,2,none⟩) htb (zf (p:=2) HW4.out.2.2.1);have b3:=zt (a:=⟨w.heap.size,3,none⟩) htb (zf (p:=3) HW4.out.2.2.1);have b4:=zt (a:=⟨w.heap.size,4,none⟩) htb (zf (p:=4) HW4.out.2.2.1);have KT:=Hd (fun (p:BW W4)=>z84 ((HKT.out p.u (HW4.out.kept p.h).2.1.2).mono (fun _ _ ⟨h1,_,h2⟩=>And.intro h1 h2)));have KND:=Hd (fun (p:BW W4)=>z84 (HN.out (zL t x) p.u HSz.out));have KW:=Hd (fun W=>zeS (w2.heap.size+1) (w2.heap.size+2) (w2.heap.size+1) C' C' L (fun i hi=>by have:=hub i hi;omega) cn (m+1) (by rw [hpl];exact h3) ⟨h4,h5⟩ t.gap (nd (zL t x)) hgp (hnd (zL t x)) W);clear y0 y1 y2 y3 q1;refine z1B 15 hmx (by rfl) (by rfl) (by kernel_rfl) (by kernel_rfl) ?_;simp only [List.take_succ_cons,List.take_zero];repeat (go_big_quiet_step (first | (go_at_call 102;refine KT.out _) | (go_at_call 108;refine KND.out _) | (go_at_call 138;refine KND.out _)))
    refine wpQuiet_nil ?_;intro W5 hw';obtain ⟨⟨Wx,hW5⟩,hw''⟩:=hw';subst hw'';have HB5:=Hd (HB4.out.trans (hW5.mono (Nat.le_of_lt hsz4)));have HR5:=Hd (HR4.out.kept (fun j h0 _ _=>hW5.block j h0));have hsz5:W3.heap.size < W5.heap.size:=Nat.lt_of_lt_of_le hsz4 hW5.size;clear g0 g1 g2 g3 g4 b0 b1 b2 b3 b4 KT KND HKT HW4 HB4 HR4 HX4 hsz4 hW5 hne;rw [if_pos (by rfl)];go_simp;go_wp2_with (go_at_call 137;refine (KW.out W5 HR5.out (by omega)).mono ?_;rintro e w7 ⟨rfl,hr7,hk7⟩;have HR7:=Hd hr7;have HB7:=Hd (HB5.out.trans (hk7.below (Nat.le_of_lt hsz5) (by omega)));have hsz7:W3.heap.size < w7.heap.size:=Nat.lt_of_lt_of_le hsz5 hk7.size;clear hr7 hk7)
    go_roundw
    case rel=>exact ⟨k+1,by go_num,by omega,by rw [HL.out];exact HR7.out,HB7,hsz7⟩
    case measure=>simp [intOf];omega
theorem zhL (s:ByteArray) (W:World) (h:s.size≤maxLen):Calls Tryz.prog 108 #[.string s] W fun e w'=>e=.returned (.int .i64 ((z0M (z04 s):Nat):Int))∧Below W.heap.size W w':=zbh s h W
theorem z70 (ac ar:Option Addr) (cc cr:Nat) (t:T) (hD:zY t) (w:World) {z:Nat} (hc:zX w z (.slice ac t.cols.length cc) t.cols) (hr:zT w z (.slice ar t.rows.length cr) t.rows) :
  Calls Tryz.prog 59 #[.agg #[.slice ac t.cols.length cc,.int .i64 t.head,.int .i64 t.foot,.slice ar t.rows.length cr,.int .i64 t.gap]] w fun e w'=>∃ v,e=.returned v∧zz w' w.heap.size w'.heap.size v (zu t)∧Below w.heap.size w w':=by
 obtain ⟨_,C,hgc,hC,_⟩:=z3Q hD;have HCN:=Hd (z4Z hgc);have HL:Hid (z1Y t.cols (z2n t (z3R t)) C=zu t):=(by rw [Hid,zu,HCN.out]);have hNL:z1u (fun x=>((z0M (z04 (zL t x)):Nat):Int)) t.gap (gOf t).cells (z0t C) 4=z2n t (z3R t):=(by unfold z2n;rw [HCN.out];rfl);have hlen:=z2x t (z3R t);rw [HCN.out] at hlen;have HUp:=Hd (z6g hD (fun x=>(z9U t x).2));have HSd:=Hd (fun k (hk:k < C)=>zbl (t:=t) (k:=k) (by rw [HCN.out];exact hk));have hmx:Tryz.prog.follows .mixedOrders=true:=(by kernel_rfl);have HK0:=Hd (ze (Below.refl w.heap.size w) (.cells #[.slice ac t.cols.length cc,.int .i64 t.head,.int .i64 t.foot,.slice ar t.rows.length cr,.int .i64 t.gap] 33));have HX:=Hd (zl w (.cells #[.slice ac t.cols.length cc,.int .i64 t.head,.int .i64 t.foot,.slice ar t.rows.length cr,.int .i64 t.gap] 33));have HT:=Hd (And.intro (hc.kept HK0.out) (hr.kept HK0.out));have hs1:(w.alloc (.cells #[.slice ac t.cols.length cc,.int .i64 t.head,.int .i64 t.foot,.slice ar t.rows.length cr,.int .i64 t.gap] 33)).heap.size=w.heap.size+1:=(by simp);have KE:=Hd (fun W h1 h2=>z5Z _ (.inl rfl) (fun s=>((z0M (z04 s):Nat):Int)) (fun s=>by have:=z6f (z04 s);omega) zhL ac ar cc cr t hD W (z:=z) h1 h2 C hgc);rw [hNL] at KE;generalize z2n t (z3R t)=L at KE HL hlen HUp;clear hNL hc hr hD hgc;go_enter Tryz.func59,Tryz.ntmps59;go_upto_region 1 with fail
 generalize w.alloc (.cells #[.slice ac t.cols.length cc,.int .i64 t.head,.int .i64 t.foot,.slice ar t.rows.length cr,.int .i64 t.gap] 33)=W1 at HK0 HX HT hs1 ⊢;have b0:W1.cell? ⟨w.heap.size,0,none⟩=some (.slice ac t.cols.length cc):=zf HX.out;have b1:W1.cell? ⟨w.heap.size,1,none⟩=some (.int .i64 t.head):=zf HX.out;have b2:W1.cell? ⟨w.heap.size,2,none⟩=some (.int .i64 t.foot):=zf HX.out;have b3:W1.cell? ⟨w.heap.size,3,none⟩=some (.slice ar t.rows.length cr):=zf HX.out;have b4:W1.cell? ⟨w.heap.size,4,none⟩=some (.int .i64 t.gap):=zf HX.out;go_wp2_with fail
 refine (KE.out _ HT.out.1 HT.out.2).mono ?_;rintro e w2 ⟨v2,rfl,hR2,hb2⟩;obtain ⟨a2,c2,rfl⟩:=hR2.form;rw [hlen] at hR2 ⊢;have HR2:=Hd hR2;have HB2:=Hd hb2;have hz2:w.heap.size+1≤w2.heap.size:=(by have:=hb2.size;omega);clear hR2 hb2 b0 b1 b2 b3 b4 KE;go_wp2_with fail
 go_loopw [10] (fun s W=>∃ k:Nat,s=.int .i64 k∧k≤C∧Hid (zz W W1.heap.size w2.heap.size (.slice a2 C c2) (z1Y t.cols L k))∧Hid (Below W1.heap.size W1 W)∧w2.heap.size≤W.heap.size) (fun s _=>C - (intOf s).toNat)
 case atStart=>exact ⟨0,rfl,Nat.zero_le _,HR2,HB2,Nat.le_refl _⟩
 case round =>
  clear HR2 HB2;obtain ⟨k,rfl,hk,HR,HB,hsz⟩:=hrel;by_cases hlt:k < C
  case neg =>
   obtain rfl:k=C:=by omega
   have HF:=Hd (HR.out.base (B':=w.heap.size) (D':=wr.heap.size) (by omega) hsz);have HK:=Hd (HK0.out.trans (HB.out.mono (by omega)));go_wp2;go_ret;exact ⟨_,rfl,by rw [← HL.out];exact HF.out,HK.out⟩
  have X0:=(HB.out.block w.heap.size (by omega)).trans HX.out;have b0:wr.cell? ⟨w.heap.size,0,none⟩=some (.slice ac t.cols.length cc):=zf X0;have hwz:w.heap.size < wr.heap.size:=(by omega);have KS:=Hd (z8H _ t.cols (k:Int) wr (HT.out.1.kept HB.out));obtain ⟨g,cap',e',hBg,hgD,hgw,hc1,hc2,hx,hf⟩:=HR.out.get (i:=k) (by rw [z20];omega);rw [z20,hlen] at e' hc1;simp only [Value.slice.injEq,true_and] at e';obtain ⟨rfl,rfl⟩:=e';unfold maxLen at hc2;have hxb:=HUp.out k (by omega);rw [z34 t.cols L k (Nat.le_refl _)] at hx;have hsd:=HSd.out k hlt;have HYes:Hid ((sd t.cols k).1=1→z1Y t.cols L (k+1)=(z1Y t.cols L k).set k (max (L.getD k 0) (sd t.cols k).2)):=fun h=>by rw [z1Y,if_pos h,z34 t.cols L k (Nat.le_refl _)]
  have HNo:Hid ((sd t.cols k).1 ≠ 1→z1Y t.cols L (k+1)=z1Y t.cols L k):=fun h=>by rw [z1Y,if_neg h]
  generalize sd t.cols k=p at KS hsd HYes HNo;clear X0;by_cases hp:p.1=1
  case neg =>
   have hpb:(p.1 == 1)=false:=(by simpa using hp);have HF:=Hd (HNo.out hp);clear HNo HYes hsd hp;go_wp2_with fail
   refine KS.out.mono ?_;rintro e w3 ⟨rfl,hb3⟩;have HK3:=Hd hb3;clear hb3;go_wp2;go_roundw
   case rel=>exact ⟨k+1,by go_num,by omega,by rw [HF.out];exact HR.out.kept (fun j h0 _ _=>(Below.heap_alloc _ _ _ (Nat.lt_of_lt_of_le h0 HK3.out.size)).trans (HK3.out.block j h0)),ze (HB.out.trans (HK3.out.mono HB.out.size)) _,by have:=HK3.out.size;simp;omega⟩
   case measure=>simp [intOf];omega
  have HF:=Hd (HYes.out hp);have hq:=hsd hp;clear HNo HYes hsd;obtain ⟨p1,p2⟩:=p;obtain rfl:p1=1:=hp;have hq:0≤p2∧p2≤60:=hq;dsimp only at KS HF;go_wp2_with fail
  refine KS.out.mono ?_;rintro e w3 ⟨rfl,hb3⟩;have HX3:=Hd (zl w3 (.cells #[.int .i64 1,.int .i64 p2] 90));have HB3:=Hd (ze (HB.out.trans (hb3.mono HB.out.size)) (.cells #[.int .i64 1,.int .i64 p2] 90));have HR3:=Hd (HR.out.kept (fun j h0 _ _=>(Below.heap_alloc w3 (.cells #[.int .i64 1,.int .i64 p2] 90) j (Nat.lt_of_lt_of_le h0 hb3.size)).trans (hb3.block j h0)));have hsz3:w2.heap.size≤(w3.alloc (.cells #[.int .i64 1,.int .i64 p2] 90)).heap.size:=(by have:=hb3.size;simp;omega);clear hb3 HR HB hx hf b0;go_upto_region 7 with fail
  generalize w3.alloc (.cells #[.int .i64 1,.int .i64 p2] 90)=W3 at HX3 HB3 HR3 hsz3 ⊢;generalize w3.heap.size=cb at HX3 ⊢;obtain ⟨g3,cap3,e3,hBg3,hgD3,hgw3,hc13,hc23,hx3,hf3⟩:=HR3.out.get (i:=k) (by rw [z20];omega);rw [z20,hlen] at e3;simp only [Value.slice.injEq,Option.some.injEq,Addr.mk.injEq,and_true] at e3;obtain ⟨rfl,_,rfl⟩:=e3;rw [z34 t.cols L k (Nat.le_refl _)] at hx3;have hcb:cb < W3.heap.size:=(bL HX3.out);have hne:=z22 W3;have q1:=zt (a:=⟨cb,1,none⟩) hcb (zf (p:=1) HX3.out);have q2:=zt (a:=⟨g,k,none⟩) hgw3 hx3;have HN:=Hd (fun W (h:Below W3.heap.size W3 W)=>(HR3.out.kept (fun j h0 _ _=>h.block j h0)).set (i:=k) (by rw [z20];omega) (max (L.getD k 0) p2));rw [← HF.out] at HN;generalize L.getD k 0=y at hxb hx3 q2 HN;clear hx3 hf3 hc13 hc23 HF;refine z1B 10 hmx (by rfl) (by rfl) (by kernel_rfl) (by kernel_rfl) ?_;simp only [List.take_succ_cons,List.take_zero];repeat (go_big_quiet_step (fail))
  refine wpQuiet_nil ?_;intro W5 hw';obtain ⟨⟨Wx,hW5⟩,hw''⟩:=hw';subst hw'';have HN5:=Hd (HN.out _ hW5);have HB5:=Hd (z3k (HB3.out.trans (hW5.mono HB3.out.size)) (p:=⟨g,k,none⟩) hBg (.int .i64 (max y p2)));have hf5:=(HR3.out.kept (fun j h0 _ _=>hW5.block j h0)).get (i:=k) (by rw [z20];omega);obtain ⟨g5,cap5,e5,_,_,hgw5,_,_,hx5,hf5⟩:=hf5;simp only [Value.slice.injEq,Option.some.injEq,Addr.mk.injEq,and_true] at e5;have eg:=e5.1;clear e5;subst eg;have hsz5:w2.heap.size≤(W5.setCell ⟨g,k,none⟩ (.int .i64 (max y p2))).heap.size:=(by rw [z41];have:=hW5.size;omega);clear q1 q2 HN HB3 HR3 hW5 hne;rw [if_pos (by rfl)];go_simp;go_wp2;go_roundw
  case rel=>exact ⟨k+1,by go_num,by omega,HN5,HB5,hsz5⟩
  case measure=>simp [intOf];omega
theorem zig (s:ByteArray) (W:World) (h:s.size≤maxLen):Calls Tryz.prog 138 #[.string s] W fun e w'=>e=.returned (.int .i64 ((z4w s:Nat):Int))∧Below W.heap.size W w':=(zc9 s h W).mono (fun _ _ ⟨h1,h2⟩=>⟨h1,h2 ▸ Below.refl _ _⟩)
theorem zca (ac ar:Option Addr) (cc cr:Nat) (t:T) (hD:zY t) (w:World) {z:Nat} (hc:zX w z (.slice ac t.cols.length cc) t.cols) (hr:zT w z (.slice ar t.rows.length cr) t.rows) :
  Calls Tryz.prog 113 #[.agg #[.slice ac t.cols.length cc,.int .i64 t.head,.int .i64 t.foot,.slice ar t.rows.length cr,.int .i64 t.gap]] w fun e w'=>∃ v,e=.returned v∧zz w' w.heap.size w'.heap.size v (z2E t)∧Below w.heap.size w w':=by
 obtain ⟨_,C,hgc,hC,_⟩:=z3Q hD;have HCN:=Hd (z4Z hgc);have HL:Hid (z3e (z2n t (z4M t)) (zu t) C=z2E t):=(by rw [Hid,z2E,HCN.out]);have hNL:z1u (fun x=>((z4w (zL t x):Nat):Int)) t.gap (gOf t).cells (z0t C) 4=z2n t (z4M t):=(by unfold z2n;rw [HCN.out];rfl);have hlen:=z2x t (z4M t);have hlen2:=z1n t;rw [HCN.out] at hlen hlen2;have HUp:=Hd (z6g hD (fun x=>(zbn t x).2));have HUp2:=Hd (z3D hD);have HK0:=Hd (ze (Below.refl w.heap.size w) (.cells #[.slice ac t.cols.length cc,.int .i64 t.head,.int .i64 t.foot,.slice ar t.rows.length cr,.int .i64 t.gap] 33));have HX:=Hd (zl w (.cells #[.slice ac t.cols.length cc,.int .i64 t.head,.int .i64 t.foot,.slice ar t.rows.length cr,.int .i64 t.gap] 33));have HT:=Hd (And.intro (hc.kept HK0.out) (hr.kept HK0.out));have hs1:(w.alloc (.cells #[.slice ac t.cols.length cc,.int .i64 t.head,.int .i64 t.foot,.slice ar t.rows.length cr,.int .i64 t.gap] 33)).heap.size=w.heap.size+1:=(by simp);have KE:=Hd (fun W h1 h2=>z5Z _ (.inr rfl) (fun s=>((z4w s:Nat):Int)) (fun s=>by have:=z9V s;omega) zig ac ar cc cr t hD W (z:=z) h1 h2 C hgc);have KL:=Hd (fun W h1 h2=>z70 ac ar cc cr t hD W (z:=z) h1 h2);rw [hNL] at KE;generalize z2n t (z4M t)=L at KE HL hlen HUp;generalize zu t=M at KL HL hlen2 HUp2;clear hNL hc hr hD hgc;go_enter Tryz.func113,Tryz.ntmps113;go_upto_region 1 with fail
 generalize w.alloc (.cells #[.slice ac t.cols.length cc,.int .i64 t.head,.int .i64 t.foot,.slice ar t.rows.length cr,.int .i64 t.gap] 33)=W1 at HK0 HX HT hs1 ⊢;obtain ⟨b0,b1,b2,b3,b4⟩:=z0l HX.out;go_wp2_with fail
 refine (KE.out _ HT.out.1 HT.out.2).mono ?_;rintro e w2 ⟨v2,rfl,hR2,hb2⟩;obtain ⟨a2,c2,rfl⟩:=hR2.form;rw [hlen] at hR2 ⊢;have HR2:=Hd hR2;have HB2:=Hd hb2;have HX2:=Hd ((hb2.block w.heap.size (by omega)).trans HX.out);have hz2:w.heap.size+1≤w2.heap.size:=(by have:=hb2.size;omega);clear hR2 hb2 b0 b1 b2 b3 b4 KE;obtain ⟨b0,b1,b2,b3,b4⟩:=z0l HX2.out;have ht2:w.heap.size < w2.heap.size:=(by omega);go_wp2_with fail
 refine (KL.out _ (HT.out.1.kept HB2.out) (HT.out.2.kept HB2.out)).mono ?_;rintro e w3 ⟨v3,rfl,hR3,hb3⟩;obtain ⟨a3,c3,rfl⟩:=hR3.form;rw [hlen2] at hR3 ⊢;have HR3:=Hd (HR2.out.kept (fun j h0 _ _=>hb3.block j h0));have HM3:=Hd hR3;have HB3:=Hd (zh HB2.out hb3);have hz3:w2.heap.size≤w3.heap.size:=hb3.size;clear hR3 hb3 HR2 HB2 HX2 b0 b1 b2 b3 b4 ht2 KL;go_wp2_with fail
 go_loopw [11] (fun s W=>∃ k:Nat,s=.int .i64 k∧k≤C∧Hid (zz W W1.heap.size w2.heap.size (.slice a2 C c2) (z3e L M k))∧Hid (zz W w2.heap.size w3.heap.size (.slice a3 C c3) M)∧Hid (Below W1.heap.size W1 W)∧w3.heap.size≤W.heap.size) (fun s _=>C - (intOf s).toNat)
 case atStart=>exact ⟨0,rfl,Nat.zero_le _,HR3,HM3,HB3,Nat.le_refl _⟩
 case round =>
  clear HR3 HM3 HB3;obtain ⟨k,rfl,hk,HR,HM,HB,hsz⟩:=hrel;by_cases hlt:k < C
  case neg =>
   obtain rfl:k=C:=by omega
   have HF:=Hd (HR.out.base (B':=w.heap.size) (D':=wr.heap.size) (by omega) (by omega));have HK:=Hd (HK0.out.trans (HB.out.mono (by omega)));go_wp2;go_ret;exact ⟨_,rfl,by rw [← HL.out];exact HF.out,HK.out⟩
  obtain ⟨g,cap',e',hBg,hgD,hgw,hc1,hc2,hx,hf⟩:=HR.out.get (i:=k) (by rw [z3E];omega);rw [z3E,hlen] at e' hc1;simp only [Value.slice.injEq,true_and] at e';obtain ⟨rfl,rfl⟩:=e';obtain ⟨g3,cap3,e3,hBg3,hgD3,hgw3,hc13,hc23,hy,_⟩:=HM.out.get (i:=k) (by omega);rw [hlen2] at e3 hc13;simp only [Value.slice.injEq,true_and] at e3;obtain ⟨rfl,rfl⟩:=e3;unfold maxLen at hc2 hc23;rw [z9W L M k (Nat.le_refl _)] at hx;have hxb:=HUp.out k (by omega);have hyb:=HUp2.out k (by omega);have HN:=Hd (HR.out.set (i:=k) (by rw [z3E];omega) (max (L.getD k 0) (M.getD k 0)));have HE:Hid (z3e L M (k+1)=(z3e L M k).set k (max (L.getD k 0) (M.getD k 0))):=rfl;rw [← HE.out] at HN;have HM2:=Hd (HM.out.kept (w':=wr.setCell ⟨g,k,none⟩ (.int .i64 (max (L.getD k 0) (M.getD k 0)))) (fun i _ h1 _=>Below.heap_setCell _ _ _ _ (fun e=>by have e':i=g:=e;omega)));have HB2:=Hd (z3k HB.out (p:=⟨g,k,none⟩) hBg (.int .i64 (max (L.getD k 0) (M.getD k 0))));have hsz2:w3.heap.size≤(wr.setCell ⟨g,k,none⟩ (.int .i64 (max (L.getD k 0) (M.getD k 0)))).heap.size:=(by rw [z41];exact hsz);generalize L.getD k 0=x at hx hxb HN HM2 HB2 hsz2;generalize M.getD k 0=y at hy hyb HN HM2 HB2 hsz2;clear HE;go_wp2;go_roundw
  case rel=>exact ⟨k+1,by go_num,by omega,HN,HM2,HB2,hsz2⟩
  case measure=>simp [intOf];omega
theorem zgd {t:T} {L:List Int} {i:Nat} (hi:i < (z1P t L).length) (hP:zn t 0 i=false):(z1P t L).getD i 0=0:=by
 rw [z4y (by rw [z36] at hi;exact hi),if_neg (by rw [hP];simp)]
theorem zbC (w0:World) (sb:Nat) (ac ar:Option Addr) (cc cr:Nat) (t:T) (width:Int) (g cap C D:Nat) (left:Int) (L:List Int) (hDr:zY t) {z:Nat} (hc:zX w0 z (.slice ac t.cols.length cc) t.cols) (hr:zT w0 z (.slice ar t.rows.length cr) t.rows) (hge:∀ j,j < C→zn t 0 j=true→L.getD j 0≤(z2E t).getD j 0) (hC:C≤88) (hCt:C=zy t) (hLC:L.length=C) (hLs:L.all wtB=true) (hg0:w0.heap.size≤g) (hgD:g < D) (hDs:D≤sb) (hok:zq left (z1P t L)=true) (w:World) (h:SpS w0 sb ac ar cc cr t width g cap C D left L w) :
  Calls Tryz.prog 61 #[.pointer (some ⟨sb,0,none⟩)] w fun e w'=>e=.returned (.tuple #[])∧SpS w0 sb ac ar cc cr t width g cap C D (z2e left (z1P t L)) (z1o L (z0i left (z1P t L))) w'∧Bk2 g sb w w':=by
 have hmx:Tryz.prog.follows .mixedOrders=true:=(by kernel_rfl);obtain ⟨ok1,len1,all1,sum1,give1⟩:=z8G (P:=zn t 0) (z36 t L) hok (fun i hi hP=>zgd hi hP);rw [hLC] at ok1 len1 all1 sum1 give1;have HTl:=Hd (z1z (z1P t L) (zn t 0) C);have HTg:=Hd (fun k (hk:k < (zi (zn t 0) C).length)=>z35 (l:=z1P t L) hk);have HW:=Hd (fun j (hj:j < C) (hP:zn t 0 j=true)=>(z4y (t:=t) (l:=L) (k:=j) (by omega)).trans (if_pos hP));have HGe:=Hd hge;have HWu:=Hd (z7M hDr);have HWl:Hid ((z2E t).length=C):=(by rw [Hid,z5A,hCt]);have KWi:=Hd (zca ac ar cc cr t hDr w (hc.kept h.bel) (hr.kept h.bel));have HLt:=Hd (fun k (hk:k < (zi (zn t 0) C).length)=>z7f hk);have hnl:=z3f (zn t 0) C;have HC:=Hd hc;have H:=Hd h;have KO:=Hd (fun W (h:SpS w0 sb ac ar cc cr t width g cap C D left L W)=>z6k sb ac ar cc cr t width g cap C left 0 hC W h.sp (hc.kept h.bel));have hmk:=z5x (zi (zn t 0) C).length (by omega);have HG1:=Hd give1;have HSum:=Hd sum1;have HA1:=Hd all1;have HLn:=Hd len1;have hleft:=(z01 hok).1;have HOk:=Hd ok1;generalize zi (zn t 0) C=js at *;generalize hT:zG (z1P t L) (zn t 0) C=T at *;clear h hc hr hge give1 sum1 all1 len1 ok1 hok hT;have hTl:=HTl.out;have s0:w.cell? ⟨sb,0,none⟩=some (.slice ac t.cols.length cc):=zf (p:=0) H.out.sp;have s1:w.cell? ⟨sb,1,none⟩=some (.int .i64 t.head):=zf (p:=1) H.out.sp;have s2:w.cell? ⟨sb,2,none⟩=some (.int .i64 t.foot):=zf (p:=2) H.out.sp;have s3:w.cell? ⟨sb,3,none⟩=some (.slice ar t.rows.length cr):=zf (p:=3) H.out.sp;have s4:w.cell? ⟨sb,4,none⟩=some (.int .i64 t.gap):=zf (p:=4) H.out.sp;go_enter Tryz.func61,Tryz.ntmps61;go_wp2_with fail
 refine KWi.out.mono ?_;rintro e wa ⟨va,rfl,hra,hba⟩;obtain ⟨aw,cw,rfl⟩:=hra.form;rw [HWl.out] at hra ⊢;have HRa:=Hd hra;have Ha:=Hd (H.out.kept hba);have HBa:=Hd hba;have hza:=hba.size;clear hra hba KWi s0 s1 s2 s3 s4;go_wp2_with fail
 refine (KO.out _ Ha.out).mono ?_;rintro e w1 ⟨v1,rfl,hr1,hb1⟩;obtain ⟨a1,c1,rfl⟩:=hr1.form;rw [z1C] at hr1 ⊢;have HRb:=Hd (HRa.out.kept (fun j h0 _ _=>hb1.block j h0));have HR1:=Hd hr1;have HS1:=Hd (Ha.out.kept hb1);have HB1:=Hd (zh HBa.out hb1);have hz1:=hb1.size;clear hr1 hb1 KO HRa Ha HBa;have hn2:(w1.alloc (.cells (z0G js.length) 3)).heap.size=w1.heap.size+1:=(by simp);have HN:=Hd (z4c w1 js.length (by omega));have hA2:=ze (Below.refl w1.heap.size w1) (.cells (z0G js.length) 3);go_upto_region 3 with fail
 have HRc:=Hd (HRb.out.kept (w':=w1.alloc (.cells (z0G js.length) 3)) (fun j h0 _ _=>hA2.block j h0));have hwa:wa.heap.size≤w1.heap.size:=hz1;have HS2:=Hd (HS1.out.kept hA2);have HR2:=Hd (HR1.out.kept (w':=w1.alloc (.cells (z0G js.length) 3)) (fun j h0 _ _=>hA2.block j h0));have HB2:=Hd (zh HB1.out hA2);have hD2:D≤w1.heap.size:=(by have:=HS1.out.sp.lt;omega);have hsb1:sb < w1.heap.size:=HS1.out.sp.lt;have hsbw:sb < w.heap.size:=H.out.sp.lt;have hw0:w0.heap.size≤w1.heap.size:=HS1.out.bel.size;clear HS1 HR1 HB1 hA2 H HRb;generalize w1.alloc (.cells (z0G js.length) 3)=W2 at HN HS2 HR2 HB2 HRc hn2 ⊢;generalize w1.heap.size=gb at HN HR2 hn2 hD2 hsb1 hz1 hw0 hwa ⊢;go_wp2_with fail
 go_loopw [21] (fun s W=>∃ k:Nat,s=.int .i64 k∧k≤js.length∧Hid (zz W gb (gb+1) (.slice (some ⟨gb,0,none⟩) js.length js.length) (z3U T k))∧Hid (Bk gb W2 W)) (fun s _=>js.length - (intOf s).toNat)
 case atStart=>exact ⟨0,rfl,Nat.zero_le _,by rw [z8E,hTl];exact HN,Bk.refl _ _⟩
 case round =>
  clear HN;obtain ⟨k,rfl,hk,HF,HB⟩:=hrel;have HS:=Hd (HS2.out.bk HB.out hw0 (by omega) hD2);have HR:=Hd (HR2.out.kept (fun j h0 _ h2=>HB.out.block j h0 (by omega)));by_cases hlt:k < js.length
  case pos =>
   obtain ⟨b1,c1',e1,hb1B,_,hb1w,hc11,hc12,hx1,_⟩:=HR.out.get (i:=k) (by rw [z1C];exact hlt);rw [z1C] at e1 hc11;rw [z7O hlt] at hx1;simp only [Value.slice.injEq,true_and] at e1;obtain ⟨rfl,rfl⟩:=e1;obtain ⟨hjC,hjP⟩:=HLt.out k hlt;have hTk:=HTg.out k hlt;have hjj:js[k]=js.getD k 0:=(by simp [List.getD,hlt]);rw [hjj] at hTk;rw [HW.out _ hjC hjP] at hTk;have hgej:=HGe.out _ hjC hjP;obtain ⟨b2,c2',e2,_,_,hb2w,hc21,hc22,hx2,_⟩:=(HRc.out.kept (fun j h0 _ h2=>HB.out.block j h0 (by omega))).get (i:=js.getD k 0) (by rw [HWl.out];exact hjC);rw [HWl.out] at e2 hc21;simp only [Value.slice.injEq,true_and] at e2;obtain ⟨rfl,rfl⟩:=e2;have hws:=HWu.out (js.getD k 0) (by rw [HWl.out];exact hjC);obtain ⟨g',cap',e3,_,_,hgw,hc31,hc32,hx3,_⟩:=HS.out.row.get (i:=js.getD k 0) (by omega);rw [hLC] at e3 hc31;simp only [Value.slice.injEq,Option.some.injEq,Addr.mk.injEq,and_true,true_and] at e3;obtain ⟨rfl,rfl⟩:=e3;have hxs:=z3V hLs (js.getD k 0);generalize js.getD k 0=j at *;generalize L.getD j 0=x at *;generalize (z2E t).getD j 0=y at *;rw [show max 0 (y - x)=y - x by omega] at hTk;unfold maxLen at hc12 hc22 hc32;have HFx:=Hd (z8F (l:=T) (k:=k) (by omega));rw [hTk] at HFx;have hne:=z22 wr;have m0:=zt (a:=⟨sb,6,none⟩) HS.out.sp.lt (zf (p:=6) HS.out.sp);have m1:=zt (a:=⟨g,j,none⟩) hgw hx3;have m2:=zt (a:=⟨b2,j,none⟩) hb2w hx2;clear hx2 hx3 hTk hjP;go_upto_region 6 with fail
   clear hx1;refine z1B 15 hmx (by rfl) (by rfl) (by kernel_rfl) (by kernel_rfl) ?_;simp only [List.take_succ_cons,List.take_zero];repeat (go_big_quiet_step (fail))
   refine wpQuiet_nil ?_;intro W5 hw';obtain ⟨⟨Wx,hW5⟩,hw''⟩:=hw';subst hw'';have HF5:=Hd (HF.out.kept (fun i h0 _ _=>hW5.block i h0));have HB5:=Hd (HB.out.trans (Bk.of_below hW5));obtain ⟨g5,cap5,e5,_,_,hgw5,_,_,hx5,hf5⟩:=HF5.out.get (i:=k) (by rw [z5D T (by omega)];omega);simp only [Value.slice.injEq,Option.some.injEq,Addr.mk.injEq,and_true] at e5;have eg:=e5.1;clear e5;subst eg;have HF6:=Hd (HF5.out.set (i:=k) (by rw [z5D T (by omega)];omega) (y - x));rw [← HFx.out] at HF6;clear m0 m1 m2 hne hW5 HF HB HF5 HFx;rw [if_pos (by rfl)];go_simp;go_wp2;go_roundw
   case rel=>exact ⟨k+1,by go_num,by omega,HF6,HB5.out.set (p:=⟨gb,k,none⟩) (.inl rfl) _⟩
   case measure=>simp [intOf];omega
  case neg =>
   obtain rfl:k=js.length:=by omega
   have s7:wr.cell? ⟨sb,7,none⟩=some (.int .i64 left):=zf (p:=7) HS.out.sp;have HF':Hid (zz wr gb (gb+1) (.slice (some ⟨gb,0,none⟩) js.length js.length) T):=(by rw [← za3 T,hTl];exact HF);have KU:=Hd (z6w left _ T HOk.out wr HF'.out.at);go_wp2_with fail
   refine KU.out.mono ?_;rintro e w5 ⟨v5,rfl,hr5,hb5⟩;obtain ⟨a5,c5,rfl⟩:=hr5.form;have hz5:=hb5.size;have hzr:=HB.out.size;have KG:=Hd (z6l sb ac ar cc cr t width g cap C left L (z0i left T) js (.slice a1 js.length c1) (.slice a5 (z0i left T).length c5) w0.heap.size D w.heap.size hLC (fun k hk=>(HLt.out k hk).1) (by omega) HLn.out hLs HA1.out hleft hgD hDs hsbw w5 (HS.out.kept hb5).sp (HS.out.kept hb5).row ((HR.out.kept (fun j h0 _ _=>hb5.block j h0)).base (by omega) (by omega)) (hr5.base (by omega) (Nat.le_refl _)));have HB6:=Hd ((HB2.out.trans (HB.out.below (n:=w.heap.size) (by omega) (by omega))).trans (hb5.mono (by omega)));have HL6:=Hd ((HS.out.kept hb5).bel);clear KU s7;go_wp2_with fail
   refine KG.out.mono ?_;rintro e w6 ⟨rfl,hs6,hr6,hb6⟩;have HF6:=Hd (SpS.mk (HL6.out.trans (hb6.below HL6.out.size hg0 (by omega))) hs6 hr6);rw [HSum.out,HG1.out] at HF6;have HK6:=Hd ((Bk2.of_below HB6.out).trans hb6);clear hs6 hr6 hb6;go_wp2
   go_end0
   exact ⟨rfl,HF6.out,HK6.out⟩
def z8P (t:T) (width:Int) (k:Nat) (left:Int) (L:List Int):Prop :=
 (k=0∧L=zu t∧left=z0q t width) ∨
 (k=1∧(0 < z0q t width∧L=z0S t width∧left=z1Q t width∨left≤0∧L=zW t width)) ∨
 (k=2∧(0 < z0q t width∧L=z1q t width∧left=z2f t width∨left≤0∧L=zW t width)) ∨
 (k=3∧L=zW t width)
theorem zih {t:T} {width left:Int} {L:List Int} (h:z8P t width 3 left L):L=zW t width:=by
 rcases h with ⟨h,_⟩ | ⟨h,_⟩ | ⟨h,_⟩ | ⟨_,h⟩
 ·omega
 ·omega
 ·omega
 ·exact h
theorem zhi {t:T} {width left:Int} {L:List Int} {k:Nat} (h:z8P t width k left L) (hn:¬ 0 < left) (hk:k < 3) (h0:z0q t width≤0→zW t width=zu t) (h1:0 < z0q t width→z1Q t width≤0→zW t width=z0S t width) (h2:0 < z0q t width→z2f t width≤0→zW t width=z1q t width):z8P t width (k+1) left L:=by
 rcases h with ⟨rfl,rfl,rfl⟩ | ⟨rfl,h⟩ | ⟨rfl,h⟩ | ⟨h,_⟩
 ·exact .inr (.inl ⟨rfl,.inr ⟨by omega,(h0 (by omega)).symm⟩⟩)
 ·refine .inr (.inr (.inl ⟨rfl,.inr ?_⟩))
  rcases h with ⟨a,rfl,rfl⟩ | ⟨a,b⟩
  ·exact ⟨by omega,(h1 a (by omega)).symm⟩
  ·exact ⟨a,b⟩
 ·refine .inr (.inr (.inr ⟨rfl,?_⟩))
  rcases h with ⟨a,rfl,rfl⟩ | ⟨a,b⟩
  ·exact (h2 a (by omega)).symm
  ·exact b
 ·omega
theorem zge {t:T} {width left:Int} {L:List Int} {k:Nat} (h:z8P t width k left L) (hp:0 < left) (hk:k < 3):0 < z0q t width∧(k=0∧L=zu t∧left=z0q t width∨k=1∧L=z0S t width∧left=z1Q t width∨k=2∧L=z1q t width∧left=z2f t width):=by
 rcases h with ⟨rfl,rfl,rfl⟩ | ⟨rfl,h⟩ | ⟨rfl,h⟩ | ⟨h,_⟩
 ·exact ⟨hp,.inl ⟨rfl,rfl,rfl⟩⟩
 ·rcases h with ⟨a,rfl,rfl⟩ | ⟨a,b⟩
  ·exact ⟨a,.inr (.inl ⟨rfl,rfl,rfl⟩)⟩
  ·omega
 ·rcases h with ⟨a,rfl,rfl⟩ | ⟨a,b⟩
  ·exact ⟨a,.inr (.inr ⟨rfl,rfl,rfl⟩)⟩
  ·omega
 ·omega
theorem zcb (ac ar:Option Addr) (cc cr:Nat) (t:T) (hD:zY t) (width:Int) (w:World) {z:Nat} (hc:zX w z (.slice ac t.cols.length cc) t.cols) (hr:zT w z (.slice ar t.rows.length cr) t.rows) :
  Calls Tryz.prog 24 #[.agg #[.slice ac t.cols.length cc,.int .i64 t.head,.int .i64 t.foot,.slice ar t.rows.length cr,.int .i64 t.gap],.int .i64 width] w fun e w'=>∃ v,e=.returned v∧zz w' w.heap.size w'.heap.size v (z4C t width)∧Below w.heap.size w w':=by
 have hmx:Tryz.prog.follows .mixedOrders=true:=(by kernel_rfl);have hmf:∀ (fn:Fn) (first cap:Array Value) (W:World),(Instr.makeFunc fn first cap).run Tryz.prog W=.ok (.func fn first cap) W:=fun _ _ _ _=>rfl;have HK0:=Hd (ze (Below.refl w.heap.size w) (.cells #[.slice ac t.cols.length cc,.int .i64 t.head,.int .i64 t.foot,.slice ar t.rows.length cr,.int .i64 t.gap] 33));have HX:=Hd (zl w (.cells #[.slice ac t.cols.length cc,.int .i64 t.head,.int .i64 t.foot,.slice ar t.rows.length cr,.int .i64 t.gap] 33));have HT:=Hd (And.intro (hc.kept HK0.out) (hr.kept HK0.out));have HT0:=Hd (And.intro hc hr);have hs1:(w.alloc (.cells #[.slice ac t.cols.length cc,.int .i64 t.head,.int .i64 t.foot,.slice ar t.rows.length cr,.int .i64 t.gap] 33)).heap.size=w.heap.size+1:=(by simp);clear hc hr;go_enter Tryz.func24,Tryz.ntmps24;go_upto_region 1 with fail
 generalize w.alloc (.cells #[.slice ac t.cols.length cc,.int .i64 t.head,.int .i64 t.foot,.slice ar t.rows.length cr,.int .i64 t.gap] 33)=W1 at HK0 HX HT hs1 ⊢;have b0:W1.cell? ⟨w.heap.size,0,none⟩=some (.slice ac t.cols.length cc):=zf HX.out;have b1:W1.cell? ⟨w.heap.size,1,none⟩=some (.int .i64 t.head):=zf HX.out;have b2:W1.cell? ⟨w.heap.size,2,none⟩=some (.int .i64 t.foot):=zf HX.out;have b3:W1.cell? ⟨w.heap.size,3,none⟩=some (.slice ar t.rows.length cr):=zf HX.out;have b4:W1.cell? ⟨w.heap.size,4,none⟩=some (.int .i64 t.gap):=zf HX.out;have KM:=Hd (z3n ac ar cc cr t width _ HT.out.1 HT.out.2)
 cases hmay:(zr t && inB width 0 300) with
 | false =>
  have HW:Hid (z4C t width=[]):=(by rw [Hid,z4C,if_neg (by rw [hmay];simp)]);rw [hmay] at KM;clear hmay;go_wp2_with fail
  refine KM.out.mono ?_;rintro e w2 ⟨rfl,hb2⟩;have HK2:=Hd (zh HK0.out hb2);clear hb2 KM b0 b1 b2 b3 b4;go_wp2;go_ret;exact ⟨_,rfl,by rw [HW.out];exact .inl ⟨rfl,rfl⟩,HK2.out⟩
 | true =>
  have HW:Hid (z4C t width=zW t width):=(by rw [Hid,z4C,if_pos hmay]);rw [hmay] at KM;rw [Bool.and_eq_true] at hmay;obtain ⟨htk,hin⟩:=hmay;have hw:0≤width∧width≤300:=(by simpa [inB] using hin);obtain ⟨hC1,hC88,hacr,ha0,ha1,hall⟩:=z5F hD htk;have hlen:=z1n t;have HrV:Hid (z0q t width=width - z1R (zu t) t.gap):=(by rw [Hid,hacr];rfl);have HA:=Hd (fun W v (h:zH W v (zu t))=>z4B v (zu t) t.gap W h);generalize z1R (zu t) t.gap=A at HrV HA ha0 ha1 hacr;clear hacr;go_wp2_with fail
  refine KM.out.mono ?_;rintro e w2 ⟨rfl,hb2⟩;have X2:=(hb2.block w.heap.size (by omega)).trans HX.out;have HK2:=Hd (zh HK0.out hb2);have hz2:w.heap.size+1≤w2.heap.size:=(by have:=hb2.size;omega);clear hb2 KM b0 b1 b2 b3 b4 HX HT;have b0:w2.cell? ⟨w.heap.size,0,none⟩=some (.slice ac t.cols.length cc):=zf X2;have b1:w2.cell? ⟨w.heap.size,1,none⟩=some (.int .i64 t.head):=zf X2;have b2:w2.cell? ⟨w.heap.size,2,none⟩=some (.int .i64 t.foot):=zf X2;have b3:w2.cell? ⟨w.heap.size,3,none⟩=some (.slice ar t.rows.length cr):=zf X2;have b4:w2.cell? ⟨w.heap.size,4,none⟩=some (.int .i64 t.gap):=zf X2;have HX2:=Hd X2;clear X2;go_wp2_with fail
  refine (z70 ac ar cc cr t hD _ (HT0.out.1.kept HK2.out) (HT0.out.2.kept HK2.out)).mono ?_;rintro e w3 ⟨v3,rfl,hR3,hb3⟩;obtain ⟨g,cap,e3,hgB,hgD,hgw,hc1,hc2,_,_⟩:=hR3.get (i:=0) (by omega);subst e3;have X3:=(hb3.block w.heap.size (by omega)).trans HX2.out;have HK3:=Hd (zh HK2.out hb3);have HR3:=Hd hR3;have hz3:=hb3.size;clear hb3 b0 b1 b2 b3 b4 HX2 HK2 hR3;go_upto_region 4 with fail
  rw [hlen] at HR3;have l3:w.heap.size < w3.heap.size:=(by omega);have hne:=z22 w3;have m0:=zt (a:=⟨w.heap.size,0,none⟩) l3 (zf (p:=0) X3);have m1:=zt (a:=⟨w.heap.size,1,none⟩) l3 (zf (p:=1) X3);have m2:=zt (a:=⟨w.heap.size,2,none⟩) l3 (zf (p:=2) X3);have m3:=zt (a:=⟨w.heap.size,3,none⟩) l3 (zf (p:=3) X3);have m4:=zt (a:=⟨w.heap.size,4,none⟩) l3 (zf (p:=4) X3);have KA:=Hd (fun (p:BW w3)=>zgF (HA.out p.u _ (HR3.out.at.kept p.h)));refine z9f 10 1 hmx (by rfl) (by rfl) (by kernel_rfl) (by kernel_rfl) (by kernel_rfl) ?_;simp only [List.take_succ_cons,List.take_zero];repeat (go_big_quiet_step (first | (go_at_call 53;refine KA.out _)))
  refine wpQuiet_nil ?_;intro W5 hw';obtain ⟨⟨Wx,hW5⟩,hw''⟩:=hw';subst hw'';have X5:=(hW5.block w.heap.size l3).trans X3;have HK5:=Hd (zh HK3.out hW5);have HR5:=Hd (HR3.out.kept (fun j h0 _ _=>hW5.block j h0));have hz5:=hW5.size;have HS5:=Hd (zl W5 (.cells #[.slice ac t.cols.length cc,.int .i64 t.head,.int .i64 t.foot,.slice ar t.rows.length cr,.int .i64 t.gap,.int .i64 width,.slice (some ⟨g,0,none⟩) (zy t) cap,.int .i64 (width - A)] 108));clear m0 m1 m2 m3 m4 hne hW5 X3 HR3 HK3 KA X5;rw [if_pos (by rfl)];go_simp;refine wpAny_ready (rs:=[11]) (by kernel_rfl) (by simp) ?_;refine AllReady.cons rfl (fun K hK=>?_) AllReady.nil;go_simp;refine hK _ _ ?_;clear hK K;refine wpAny_done (by kernel_rfl) ?_ _;have HS6:=Hd (SpS.mk (w0:=w) (D:=W5.heap.size) (ze HK5.out _) HS5.out ((HR5.out.kept (w':=W5.alloc (.cells #[.slice ac t.cols.length cc,.int .i64 t.head,.int .i64 t.foot,.slice ar t.rows.length cr,.int .i64 t.gap,.int .i64 width,.slice (some ⟨g,0,none⟩) (zy t) cap,.int .i64 (width - A)] 108)) (fun j h0 _ _=>Below.heap_alloc _ _ _ h0)).base (by omega) (by omega)));rw [← HrV.out] at HS6 ⊢;have hg0:w.heap.size≤g:=(by omega);have hgD5:g < W5.heap.size:=(by omega);have hs6:(W5.alloc (.cells #[.slice ac t.cols.length cc,.int .i64 t.head,.int .i64 t.foot,.slice ar t.rows.length cr,.int .i64 t.gap,.int .i64 width,.slice (some ⟨g,0,none⟩) (zy t) cap,.int .i64 (z0q t width)] 108)).heap.size=W5.heap.size+1:=(by simp);generalize W5.alloc (.cells #[.slice ac t.cols.length cc,.int .i64 t.head,.int .i64 t.foot,.slice ar t.rows.length cr,.int .i64 t.gap,.int .i64 width,.slice (some ⟨g,0,none⟩) (zy t) cap,.int .i64 (z0q t width)] 108)=W6 at HS6 hs6 ⊢;generalize W5.heap.size=sb at HS6 hs6 hgD5 ⊢;clear HS5 HR5 HK5 hz5;go_upto_region 6 with fail
  have HS7:=Hd (HS6.out.kept (ze (Below.refl W6.heap.size W6) (.cells #[.func (.func 60) #[.pointer (some ⟨sb,0,none⟩)] #[],.func (.func 61) #[.pointer (some ⟨sb,0,none⟩)] #[],.func (.func 62) #[.pointer (some ⟨sb,0,none⟩)] #[]] 1)));have HF7:=Hd (zl W6 (.cells #[.func (.func 60) #[.pointer (some ⟨sb,0,none⟩)] #[],.func (.func 61) #[.pointer (some ⟨sb,0,none⟩)] #[],.func (.func 62) #[.pointer (some ⟨sb,0,none⟩)] #[]] 1));rw [hs6] at HF7;generalize W6.alloc (.cells #[.func (.func 60) #[.pointer (some ⟨sb,0,none⟩)] #[],.func (.func 61) #[.pointer (some ⟨sb,0,none⟩)] #[],.func (.func 62) #[.pointer (some ⟨sb,0,none⟩)] #[]] 1)=W7 at HS7 HF7 ⊢;clear HS6 hs6;have HWno:=Hd (fun h=>zhJ (t:=t) (width:=width) h);have HW1:=Hd (fun h=>zhg hD htk hw hC88 h);have HW2:=Hd (fun h=>zcN hD htk hw hC88 h);have HWr:=Hd (fun h=>zbB (t:=t) (width:=width) h);have HSt:=Hd (fun h=>z3G hD htk hw h);have HSm:=Hd (fun h=>zdq hD htk hw h);have HOw:=Hd (fun h (j:Nat) (hj:j < zy t) (hP:zn t 0 j=true)=>zeP hD htk hw h hj hP);go_wp2_with fail
  go_loopw [36] (fun s W=>∃ (k:Nat) (left:Int) (L:List Int),s=.int .i64 k∧k≤3∧Hid (SpS w sb ac ar cc cr t width g cap (zy t) sb left L W)∧Hid (W.heap[sb+1]?=some (.cells #[.func (.func 60) #[.pointer (some ⟨sb,0,none⟩)] #[],.func (.func 61) #[.pointer (some ⟨sb,0,none⟩)] #[],.func (.func 62) #[.pointer (some ⟨sb,0,none⟩)] #[]] 1))∧Hid (z8P t width k left L)) (fun s _=>3 - (intOf s).toNat)
  case atStart=>exact ⟨0,_,_,rfl,Nat.zero_le _,HS7,HF7,.inl ⟨rfl,rfl,rfl⟩⟩
  case round =>
   obtain ⟨k,left,L,rfl,hk,HS,HF,HC⟩:=hrel;have s7:wr.cell? ⟨sb,7,none⟩=some (.int .i64 left):=zf (p:=7) HS.out.sp;have s6:wr.cell? ⟨sb,6,none⟩=some (.slice (some ⟨g,0,none⟩) (zy t) cap):=zf (p:=6) HS.out.sp;have f0:wr.cell? ⟨sb+1,0,none⟩=some (.func (.func 60) #[.pointer (some ⟨sb,0,none⟩)] #[]):=zf (p:=0) HF.out;have f1:wr.cell? ⟨sb+1,1,none⟩=some (.func (.func 61) #[.pointer (some ⟨sb,0,none⟩)] #[]):=zf (p:=1) HF.out;have f2:wr.cell? ⟨sb+1,2,none⟩=some (.func (.func 62) #[.pointer (some ⟨sb,0,none⟩)] #[]):=zf (p:=2) HF.out;by_cases hk3:k=3
   ·subst hk3;have HL:=Hd (zih HC.out);go_wp2;go_ret;exact ⟨_,rfl,by rw [HW.out,← HL.out];exact HS.out.row.base (Nat.le_refl _) (Nat.le_of_lt HS.out.sp.lt),HS.out.bel⟩
   by_cases hpos:0 < left
   case neg =>
    have HN:=Hd (zhi HC.out hpos (by omega) HWno.out HW1.out HW2.out)
    rcases (by omega:k=0∨k=1∨k=2) with rfl | rfl | rfl
    all_goals
     go_wp2;go_roundw
     case rel=>exact ⟨_,left,L,by go_num,by omega,HS,HF,HN⟩
     case measure=>simp [intOf]
   case pos =>
    obtain ⟨hV,hst⟩:=zge HC.out hpos (by omega);clear HC
    rcases hst with ⟨rfl,rfl,rfl⟩ | ⟨rfl,rfl,rfl⟩ | ⟨rfl,rfl,rfl⟩
    ·have hst:=HSt.out hV;have HKe:=Hd (zc8 w sb ac ar cc cr t width g cap (zy t) sb (z0q t width) (zu t) HT0.out.1 hC88 rfl hlen hall hg0 hgD5 (Nat.le_refl _) hw hst.1 wr HS.out);clear hst;go_wp2_with (go_at_call 60;refine HKe.out.mono ?_;rintro e w8 ⟨rfl,hS8,hb8⟩;replace HF:=Hd ((hb8.block (sb+1) (bL HF.out) (by omega) (by omega)).trans HF.out);clear hb8 HKe s6 s7 f0 f1 f2)
     go_roundw
     case rel=>exact ⟨1,_,_,by go_num,by omega,hS8,HF,.inr (.inl ⟨rfl,.inl ⟨hV,rfl,rfl⟩⟩)⟩
     case measure=>simp [intOf]
    ·have hst:=HSt.out hV;have HKe:=Hd (zbC w sb ac ar cc cr t width g cap (zy t) sb (z1Q t width) (z0S t width) hD HT0.out.1 HT0.out.2 (HOw.out hV) hC88 rfl hst.2.2.2.1 (HSm.out hV).1 hg0 hgD5 (Nat.le_refl _) hst.2.1 wr HS.out);clear hst;go_wp2_with (go_at_call 61;refine HKe.out.mono ?_;rintro e w8 ⟨rfl,hS8,hb8⟩;replace HF:=Hd ((hb8.block (sb+1) (bL HF.out) (by omega) (by omega)).trans HF.out);clear hb8 HKe s6 s7 f0 f1 f2)
     go_roundw
     case rel=>exact ⟨2,_,_,by go_num,by omega,hS8,HF,.inr (.inr (.inl ⟨rfl,.inl ⟨hV,rfl,rfl⟩⟩))⟩
     case measure=>simp [intOf]
    ·have hst:=HSt.out hV;have HKe:=Hd (zao w sb ac ar cc cr t width g cap (zy t) sb (z2f t width) (z1q t width) HT0.out.1 hC88 hst.2.2.2.2.1 (HSm.out hV).2 hg0 hgD5 (Nat.le_refl _) (by have:=hst.2.2.1;omega) wr HS.out);clear hst;go_wp2_with (go_at_call 62;refine HKe.out.mono ?_;rintro e w8 ⟨rfl,⟨left8,hS8⟩,hb8⟩;replace HF:=Hd ((hb8.block (sb+1) (bL HF.out) (by omega) (by omega)).trans HF.out);clear hb8 HKe s6 s7 f0 f1 f2)
     go_roundw
     case rel=>exact ⟨3,_,_,by go_num,by omega,hS8,HF,.inr (.inr (.inr ⟨rfl,(HWr.out hV).symm⟩))⟩
     case measure=>simp [intOf]
end
section
open Go.RowKit
end
section
open Go.RowKit Go.BigFrame
def NdW (W2:World) (D:Nat) (v:Value) (L:List Int) (cb:Nat) (bx:Obj) (W:World):Prop:=Below W2.heap.size W2 W∧zz W W2.heap.size D v L∧W.heap[cb]?=some bx
theorem NdW.kept {W2 W W':World} {D cb:Nat} {v:Value} {L:List Int} {bx:Obj} (h:NdW W2 D v L cb bx W) (hb:Below W.heap.size W W'):NdW W2 D v L cb bx W' :=
 ⟨h.1.trans (hb.mono h.1.size),h.2.1.kept (fun j h0 _ _=>hb.block j h0),(hb.block cb (bL h.2.2)).trans h.2.2⟩
def Ls (w:World) (z zg:Nat) (ac ar:Option Addr) (cc cr:Nat) (t:T) (ag:Option Addr) (cg:Nat) (W:World):Prop :=
 Below w.heap.size w W∧(zX W z (.slice ac t.cols.length cc) t.cols∧zT W z (.slice ar t.rows.length cr) t.rows)∧z2B W zg (.slice ag (gOf t).cells.length cg) (gOf t).cells∧W.heap[w.heap.size]?=some (.cells #[.slice ac t.cols.length cc,.int .i64 t.head,.int .i64 t.foot,.slice ar t.rows.length cr,.int .i64 t.gap] 33)∧W.heap[w.heap.size+1]?=some (.cells #[.int .i64 (gOf t).rows,.int .i64 (gOf t).cols,.slice ag (gOf t).cells.length cg] 56)
theorem Ls.kept {w W W':World} {z zg:Nat} {ac ar ag:Option Addr} {cc cr cg:Nat} {t:T} (h:Ls w z zg ac ar cc cr t ag cg W) (hb:Below W.heap.size W W'):Ls w z zg ac ar cc cr t ag cg W' :=
 ⟨h.1.trans (hb.mono h.1.size),⟨h.2.1.1.kept hb,h.2.1.2.kept hb⟩,h.2.2.1.kept hb,(hb.block _ (bL h.2.2.2.1)).trans h.2.2.2.1,(hb.block _ (bL h.2.2.2.2)).trans h.2.2.2.2⟩
end
section
open Go.RowKit
theorem zhO {t:T} (hD:zY t) (hok:zr t=true) {width:Int} (hw:0≤width∧width≤300):UpB (zW t width) 5000:=by
 obtain ⟨h1,h2,h3⟩:=za1 hD hok hw;have hup:=z3D hD;have hll:=z1n t;obtain ⟨hC1,hC88,_,_,_,_⟩:=z5F hD hok
 have hg:0≤t.gap∧t.gap≤3:=by
  simp only [zr,inB,Bool.and_eq_true,decide_eq_true_eq] at hok;exact hok.2.2.1
 have hgg:0≤t.gap * ((zy t:Int) - 1):=Int.mul_nonneg hg.1 (by omega)
 have hpos:∀ i,i < (zW t width).length→0≤(zW t width).getD i 0:=fun i hi=>by
  have a:=h3 i (by omega);have b:=hup i (by omega);omega
 intro i hi;refine ⟨hpos i hi,?_⟩
 split at h2
 ·have hs:(zW t width).sum=(zu t).sum:=(by omega);by_cases hlt:(zu t).getD i 0 < (zW t width).getD i 0
  ·have:=zbo (a:=zu t) (b:=zW t width) (by omega) (fun j hj=>(h3 j (by omega)).1) i (by omega) hlt;omega
  ·have:=hup i (by omega);omega
 ·have:=zbA hpos hi;omega
def zdr (t:T) (width:Int):Int:=z1R (z4C t width) t.gap
theorem zhk {t:T} (hD:zY t) (hok:zr t=true) {width:Int} (hw:0≤width∧width≤300) :
  z4C t width=zW t width∧(zW t width).length=zy t∧zdr t width=(zW t width).sum+t.gap * ((zy t:Int) - 1)∧(zW t width).all wtB=true∧0≤(zW t width).sum∧(zW t width).sum≤1000000∧0≤t.gap * ((zy t:Int) - 1)∧t.gap * ((zy t:Int) - 1)≤1000 ∧
  zdr t width=(if width < z1R (zu t) t.gap∨z6X t=true then z1R (zu t) t.gap else width):=by
 obtain ⟨hC1,hC2,ea,_,_,_⟩:=z5F hD hok;obtain ⟨f1,f2,_⟩:=za1 hD hok hw;have hup:=zhO hD hok hw;have hall:(zW t width).all wtB=true:=z5Y (fun i hi=>by have:=hup i hi;omega);have hs:=z2Q hall;have hsb:=z4Y (l:=zW t width) (B:=5000) (fun x hx=>hup.mem hx)
 have hg:0≤t.gap∧t.gap≤3:=by
  simp only [zr,inB,Bool.and_eq_true,decide_eq_true_eq] at hok;exact hok.2.2.1
 have hg1:0≤t.gap * ((zy t:Int) - 1):=Int.mul_nonneg hg.1 (by omega);have hg2:t.gap * ((zy t:Int) - 1)≤3 * 87:=Int.mul_le_mul hg.2 (by omega) (by omega) (by omega);have e0:z4C t width=zW t width:=(by unfold z4C;rw [if_pos (by rw [hok,z3o hw.1 hw.2];rfl)])
 have e1:zdr t width=(zW t width).sum+t.gap * ((zy t:Int) - 1):=by
  unfold zdr;rw [e0,z4o (by omega),f1,z3u (by omega)]
 refine ⟨e0,f1,e1,hall,hs.1,by omega,hg1,by omega,?_⟩;rw [e1,f2,ea]
end
end Go.Proofs.YtggmjiddadjilaiGreat
