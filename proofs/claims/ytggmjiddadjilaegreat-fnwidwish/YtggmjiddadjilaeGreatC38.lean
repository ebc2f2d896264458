/-
  PROVED HERE: the program's wideEnough at a drawn table: the list 'needTo', in memory of its own; nothing that was in memory is turned. Also: 3 more texts of the same proof.
-/
import Derived.Test.YtggmjiddadjilaeGreatC33
import Derived.Test.YtggmjiddadjilaeGreatC28
import Derived.Test.YtggmjiddadjilaeGreatC24
import Derived.Test.YtggmjiddadjilaeGreatC35
import Derived.Test.YtggmjiddadjilaeGreatC21
import Derived.Test.YtggmjiddadjilaeGreatC37
import Derived.Test.YtggmjiddadjilaeGreatC30
import Derived.Test.YtggmjiddadjilaeGreatC34
import Derived.Deep.DeepCutAuto
import Derived.Deep.RegionWith
import Derived.Deep.QuietTactic
import Derived.BigQuiet
namespace Go.Proofs.YtggmjiddadjilaeGreat
open Go.RowKit Go.BigFrame
set_option maxRecDepth 100000 in
set_option maxHeartbeats 1000000 in
theorem wideEnough_TxtWish (nd:ByteArray→Int) (hnd:∀ s,0≤nd s∧nd s≤30) (KN:∀ (s:ByteArray) (W:World),s.size≤maxLen→Calls Tryz.prog 53 #[.string s] W fun e w'=>e=.returned (.int .i64 (nd s))∧Below W.heap.size W w')
  (ac ar:Option Addr) (cc cr:Nat) (t:T) (hD:Drawn t) (w:World) {z:Nat} (hc:ColsAt w z (.slice ac t.cols.length cc) t.cols) (hr:RowsAt w z (.slice ar t.rows.length cr) t.rows) (C:Nat) (hgc:(gOf t).cols=C) :
  Calls Tryz.prog 40 #[.agg #[.slice ac t.cols.length cc,.int .i64 t.head,.int .i64 t.foot,.slice ar t.rows.length cr,.int .i64 t.gap],.func (.func 53) #[] #[]] w fun e w'=>∃ v,e=.returned v∧RowI w' w.heap.size w'.heap.size v (needTo (fun x=>nd (textOf t x)) t.gap (gOf t).cells (zeroL C) 4)∧Below w.heap.size w w':=by
 obtain ⟨h40,C',hgc',hC88,hcel⟩:=cel_of hD
 obtain rfl:C'=C:=by rw [hgc'] at hgc;omega
 have K0:=k_alloc (Below.refl w.heap.size w) (.cells #[.slice ac t.cols.length cc,.int .i64 t.head,.int .i64 t.foot,.slice ar t.rows.length cr,.int .i64 t.gap] 26)
 have HN:=Hd KN
 have HCel:=Hd hcel
 have HDr:=Hd hD
 have HGC:=Hd hgc'
 have hup:=need_up (p:=fun x=>nd (textOf t x)) (l:=zeroL C') hcel h40 (by simp [zeroL]) (fun x=>(hnd _).2) (zero_up _)
 have HUp:=Hd hup
 have hps:=fun s hs=>pass_up (p:=fun x=>nd (textOf t x)) (s:=((s+1:Nat):Int)) (l:=needTo (fun x=>nd (textOf t x)) t.gap (gOf t).cells (zeroL C') s) hcel (by rw [needTo_len];simp [zeroL]) (fun x=>(hnd _).2) (hup s hs)
 have HPs:=Hd hps
 have HT:=Hd (And.intro (hc.kept K0) (hr.kept K0))
 have HX:=Hd (newestB w (.cells #[.slice ac t.cols.length cc,.int .i64 t.head,.int .i64 t.foot,.slice ar t.rows.length cr,.int .i64 t.gap] 26))
 have HK:=Hd K0
 have hmk:=makeI C' (by omega)
 have hmx:Tryz.prog.follows .mixedOrders=true:=by kernel_rfl
 clear hcel hD hup hps hc hr K0 KN hgc' hgc
 go_enter Tryz.func40,Tryz.ntmps40
 go_wp2_with fail
 refine (implGrdOf ac ar cc cr t HDr.out _ HT.out.1 HT.out.2).mono ?_
 rintro e w2 ⟨vg,rfl,hO2,hb2⟩
 obtain ⟨ag,cg,rfl⟩:=own_slice hO2
 have hG2:=hO2.at (gOf_gok HDr.out)
 have HW:Hid (Ws w z w2.heap.size ac ar cc cr t ag cg (w2.alloc (.cells #[.int .i64 (gOf t).rows,.int .i64 (gOf t).cols,.slice ag (gOf t).cells.length cg] 36))) :=
  ⟨k_alloc (k_trans HK.out hb2) _,⟨(HT.out.1.kept hb2).kept (k_alloc (Below.refl _ _) _),(HT.out.2.kept hb2).kept (k_alloc (Below.refl _ _) _)⟩,(Below.heap_alloc _ _ _ (Nat.lt_of_lt_of_le (by simp) hb2.size)).trans ((hb2.block w.heap.size (by simp)).trans HX.out),(hG2.base (by simp)).kept (k_alloc (Below.refl _ _) _),newestB _ _⟩
 have hz2:w.heap.size < w2.heap.size:=Nat.lt_of_lt_of_le (by simp) hb2.size
 clear hO2 hb2 hG2 HT HX HK
 go_upto_region 2 with fail
 generalize hW3:w2.alloc (.cells #[.int .i64 (gOf t).rows,.int .i64 (gOf t).cols,.slice ag (gOf t).cells.length cg] 36)=W3 at HW ⊢
 have hz3:W3.heap.size=w2.heap.size+1:=by rw [← hW3];simp
 clear hW3
 obtain ⟨y0,y1,y2,y3⟩:=HW.out.at
 rw [HGC.out] at y2
 go_wp2_with fail
 clear hmk y0 y1 y2 y3
 have S0:Hid (RowI (W3.alloc (.cells (newI C') 3)) (w2.heap.size+1) (w2.heap.size+2) (.slice (some ⟨w2.heap.size+1,0,none⟩) C' C') (zeroL C')):=by have h:=row_new W3 C' (by omega);rw [hz3] at h;exact h
 go_loopw [7] (fun s W=>∃ m:Nat,s=.int .i64 ((m:Int)+1)∧m≤4∧Hid (RowI W (w2.heap.size+1) (w2.heap.size+2) (.slice (some ⟨w2.heap.size+1,0,none⟩) C' C') (needTo (fun x=>nd (textOf t x)) t.gap (gOf t).cells (zeroL C') m))∧Hid (Below W3.heap.size W3 W)∧W3.heap.size < W.heap.size) (fun s _=>5 - (intOf s).toNat)
 case atStart=>exact ⟨0,rfl,by omega,S0,k_alloc (Below.refl _ _) _,by simp⟩
 case round =>
  clear S0
  obtain ⟨m,rfl,hm,HR,HB,hsz⟩:=hrel
  by_cases hlt:m < 4
  case neg =>
   obtain rfl:m=4:=by omega
   have hK:=Hd (HW.out.1.trans (HB.out.mono (by omega)))
   have HF:=Hd (HR.out.base (B':=w.heap.size) (D':=wr.heap.size) (by omega) (by omega))
   go_wp2
   go_ret
   exact ⟨_,rfl,HF.out,hK.out⟩
  have HWr:=Hd (HW.out.kept HB.out)
  obtain ⟨y0,y1,y2,y3⟩:=HWr.out.at
  rw [HGC.out] at y2
  go_wp2_with fail
  clear y0 y1 y2 y3 HWr
  have HUm:=Hd (HPs.out m (by omega) (by omega))
  rw [show decide ((m:Int)+1≤4)=true by simp;omega]
  go_loopw [22] (fun s W=>∃ k:Nat,s=.int .i64 k∧k≤(gOf t).cells.length∧Hid (RowI W (w2.heap.size+1) (w2.heap.size+2) (.slice (some ⟨w2.heap.size+1,0,none⟩) C' C') (passTo (fun x=>nd (textOf t x)) t.gap ((m+1:Nat):Int) (gOf t).cells (needTo (fun x=>nd (textOf t x)) t.gap (gOf t).cells (zeroL C') m) k))∧Hid (Below W3.heap.size W3 W)∧W3.heap.size < W.heap.size) (fun s _=>(gOf t).cells.length - (intOf s).toNat)
  case atStart=>exact ⟨0,rfl,Nat.zero_le _,HR,HB,hsz⟩
  case round =>
   clear HR HB hsz
   obtain ⟨k,rfl,hk,HR,HB,hsz⟩:=hrel
   by_cases hkl:k < (gOf t).cells.length
   case neg =>
    obtain rfl:k=(gOf t).cells.length:=by omega
    go_wp2
    go_roundw
    case rel=>exact ⟨m+1,by go_num,by omega,HR,HB,hsz⟩
    case measure=>simp [intOf];omega
   have HWr:=Hd (HW.out.kept HB.out)
   obtain ⟨b,off,cap',e',hc1,hc2,hbl,hx,_⟩:=At.get HWr.out.2.2.2.1 hkl
   simp only [Value.slice.injEq,true_and] at e'
   obtain ⟨rfl,rfl⟩:=e'
   unfold maxLen at hc2
   have HCe:=Hd (HCel.out k hkl)
   obtain ⟨⟨rn,jn,cn,mn,e1,e2,e3,e4,h1,h2,h3,h4,h5⟩,hgp,hrs⟩:=HCel.out k hkl
   have HSz:Hid ((textOf t ((gOf t).cells.getD k dG)).size≤maxLen):=text_size HCe.out HWr.out.2.1.2
   have hub:=HUm.out k hk
   have HNo:Hid ((mn:Int) ≠ ((m+1:Nat):Int)→passTo (fun x=>nd (textOf t x)) t.gap ((m+1:Nat):Int) (gOf t).cells (needTo (fun x=>nd (textOf t x)) t.gap (gOf t).cells (zeroL C') m) (k+1)=passTo (fun x=>nd (textOf t x)) t.gap ((m+1:Nat):Int) (gOf t).cells (needTo (fun x=>nd (textOf t x)) t.gap (gOf t).cells (zeroL C') m) k):=fun h=>by rw [passTo,if_neg (by rw [e4];exact h)]
   have HYes:Hid ((mn:Int)=((m+1:Nat):Int)→passTo (fun x=>nd (textOf t x)) t.gap ((m+1:Nat):Int) (gOf t).cells (needTo (fun x=>nd (textOf t x)) t.gap (gOf t).cells (zeroL C') m) (k+1)=wideL (passTo (fun x=>nd (textOf t x)) t.gap ((m+1:Nat):Int) (gOf t).cells (needTo (fun x=>nd (textOf t x)) t.gap (gOf t).cells (zeroL C') m) k) cn mn t.gap (nd (textOf t ((gOf t).cells.getD k dG)))):=fun h=>by rw [passTo,if_pos (by rw [e4];exact h),e3,e4,Int.toNat_natCast,Int.toNat_natCast]
   have hpl:=passTo_len (fun x=>nd (textOf t x)) t.gap ((m+1:Nat):Int) (gOf t).cells (needTo (fun x=>nd (textOf t x)) t.gap (gOf t).cells (zeroL C') m) k
   rw [needTo_len,show (zeroL C').length=C' by simp [zeroL]] at hpl
   generalize (gOf t).cells.getD k dG=x at hx e1 e2 e3 e4 HYes hrs HCe HSz
   generalize hL:passTo (fun x=>nd (textOf t x)) t.gap ((m+1:Nat):Int) (gOf t).cells (needTo (fun x=>nd (textOf t x)) t.gap (gOf t).cells (zeroL C') m) k=L at HR HNo HYes hub hpl
   clear hL
   have HKT:=Hd (fun (W:World) (hR:RowsAt W z (.slice ar t.rows.length cr) t.rows)=>impltextOf ac ar cc cr t x HCe.out W hR)
   simp only [e1,e2,e3,e4] at HKT
   obtain ⟨x0,x1,x2,x3,x4⟩:=hx
   rw [e1] at x0
   rw [e2] at x4
   rw [e3] at x1
   rw [e4] at x3
   by_cases hms:(mn:Int)=(m:Int)+1
   case neg =>
    have hmb:((mn:Int) == (m:Int)+1)=false:=by simpa using hms
    have HL:=Hd (HNo.out (by omega))
    clear HNo HYes e1 e2 e3 e4 hms
    go_wp2
    go_roundw
    case rel=>exact ⟨k+1,by go_num,by omega,by rw [HL.out];exact HR.out.kept (fun j h0 _ _=>Below.heap_alloc _ _ _ h0),k_alloc HB.out _,by simp;omega⟩
    case measure=>simp [intOf];omega
   obtain rfl:mn=m+1:=by omega
   have HL:=Hd (HYes.out rfl)
   have hmb:((m:Int)+1 == (m:Int)+1)=true:=by simp
   have hcast:((m+1:Nat):Int)=(m:Int)+1:=by omega
   rw [hcast] at x3
   simp only [hcast] at HKT
   clear hcast
   clear HNo HYes e1 e2 e3 e4 hms
   go_upto_region 10 with fail
   have HW4:Hid (Ws w z w2.heap.size ac ar cc cr t (some ⟨b,off,none⟩) cg (wr.alloc (.cells #[.int .i64 (rn:Int),.int .i64 (cn:Int),.int .i64 x.rows,.int .i64 ((m:Int)+1),.int .i64 (jn:Int)] 49))):=HWr.out.kept (k_alloc (Below.refl _ _) _)
   have HB4:=Hd (k_alloc HB.out (.cells #[.int .i64 (rn:Int),.int .i64 (cn:Int),.int .i64 x.rows,.int .i64 ((m:Int)+1),.int .i64 (jn:Int)] 49))
   have HR4:=Hd (HR.out.kept (fun j h0 _ _=>Below.heap_alloc wr (.cells #[.int .i64 (rn:Int),.int .i64 (cn:Int),.int .i64 x.rows,.int .i64 ((m:Int)+1),.int .i64 (jn:Int)] 49) j h0))
   have HX4:=Hd (newestB wr (.cells #[.int .i64 (rn:Int),.int .i64 (cn:Int),.int .i64 x.rows,.int .i64 ((m:Int)+1),.int .i64 (jn:Int)] 49))
   have hsz4:W3.heap.size < (wr.alloc (.cells #[.int .i64 (rn:Int),.int .i64 (cn:Int),.int .i64 x.rows,.int .i64 ((m:Int)+1),.int .i64 (jn:Int)] 49)).heap.size:=by simp;omega
   generalize wr.alloc (.cells #[.int .i64 (rn:Int),.int .i64 (cn:Int),.int .i64 x.rows,.int .i64 ((m:Int)+1),.int .i64 (jn:Int)] 49)=W4 at HW4 HB4 HR4 HX4 hsz4 ⊢
   generalize wr.heap.size=cb at HX4 ⊢
   clear HWr HR HB hsz x0 x1 x2 x3 x4 hbl
   have q1:W4.cell? ⟨cb,1,none⟩=some (.int .i64 (cn:Int)):=cellB HX4.out
   have hcb:cb < W4.heap.size:=(bL HX4.out)
   have htb:w.heap.size < W4.heap.size:=(bL HW4.out.2.2.1)
   obtain ⟨y0,y1,y2,y3⟩:=HW4.out.at
   obtain ⟨t3,t4,t5,t6,t10,t11,t12,t13⟩:=slice_facts h3 hC88
   have hne:=bw_some W4
   have g0:=bw_cell (a:=⟨cb,0,none⟩) hcb (cellB (p:=0) HX4.out)
   have g1:=bw_cell (a:=⟨cb,1,none⟩) hcb (cellB (p:=1) HX4.out)
   have g2:=bw_cell (a:=⟨cb,2,none⟩) hcb (cellB (p:=2) HX4.out)
   have g3:=bw_cell (a:=⟨cb,3,none⟩) hcb (cellB (p:=3) HX4.out)
   have g4:=bw_cell (a:=⟨cb,4,none⟩) hcb (cellB (p:=4) HX4.out)
   have b0:=bw_cell (a:=⟨w.heap.size,0,none⟩) htb (cellB (p:=0) HW4.out.2.2.1)
   have b1:=bw_cell (a:=⟨w.heap.size,1,none⟩) htb (cellB (p:=1) HW4.out.2.2.1)
   have b2:=bw_cell (a:=⟨w.heap.size,2,none⟩) htb (cellB (p:=2) HW4.out.2.2.1)
   have b3:=bw_cell (a:=⟨w.heap.size,3,none⟩) htb (cellB (p:=3) HW4.out.2.2.1)
   have b4:=bw_cell (a:=⟨w.heap.size,4,none⟩) htb (cellB (p:=4) HW4.out.2.2.1)
   have KT:=Hd (fun (p:BW W4)=>bw_of ((HKT.out p.u (HW4.out.kept p.h).2.1.2).mono (fun _ _ ⟨h1,_,h2⟩=>And.intro h1 h2)))
   have KND:=Hd (fun (p:BW W4)=>bw_of (HN.out (textOf t x) p.u HSz.out))
   have KW:=Hd (fun W=>widen_any (w2.heap.size+1) (w2.heap.size+2) (w2.heap.size+1) C' C' L (fun i hi=>by have:=hub i hi;omega) cn (m+1) (by rw [hpl];exact h3) ⟨h4,h5⟩ t.gap (nd (textOf t x)) hgp (hnd (textOf t x)) W)
   clear y0 y1 y2 y3 q1
   refine wp_region_last 15 hmx (by rfl) (by rfl) (by kernel_rfl) (by kernel_rfl) ?_
   simp only [List.take_succ_cons,List.take_zero]
   repeat (go_big_quiet_step (first | (go_at_call 59;refine KT.out _) | (go_at_call 53;refine KND.out _)))
   refine wpQuiet_nil ?_
   intro W5 hw'
   obtain ⟨⟨Wx,hW5⟩,hw''⟩:=hw'
   subst hw''
   have HB5:=Hd (HB4.out.trans (hW5.mono (Nat.le_of_lt hsz4)))
   have HR5:=Hd (HR4.out.kept (fun j h0 _ _=>hW5.block j h0))
   have hsz5:W3.heap.size < W5.heap.size:=Nat.lt_of_lt_of_le hsz4 hW5.size
   clear g0 g1 g2 g3 g4 b0 b1 b2 b3 b4 KT KND HKT HW4 HB4 HR4 HX4 hsz4 hW5 hne
   rw [if_pos (by rfl)]
   go_simp
   go_wp2_with (go_at_call 73;refine (KW.out W5 HR5.out (by omega)).mono ?_;rintro e w7 ⟨rfl,hr7,hk7⟩;have HR7:=Hd hr7;have HB7:=Hd (HB5.out.trans (hk7.below (Nat.le_of_lt hsz5) (by omega)));have hsz7:W3.heap.size < w7.heap.size:=Nat.lt_of_lt_of_le hsz5 hk7.size;clear hr7 hk7)
   go_roundw
   case rel=>exact ⟨k+1,by go_num,by omega,by rw [HL.out];exact HR7.out,HB7,hsz7⟩
   case measure=>simp [intOf];omega
theorem wishN (s:ByteArray) (W:World) (h:s.size≤maxLen):Calls Tryz.prog 53 #[.string s] W fun e w'=>e=.returned (.int .i64 ((wishOf s:Nat):Int))∧Below W.heap.size W w':=(implTxtWish s h W).mono (fun _ _ ⟨h1,h2⟩=>⟨h1,h2 ▸ Below.refl _ _⟩)
set_option maxRecDepth 100000 in
set_option maxHeartbeats 1000000 in
theorem implColWish (ac ar:Option Addr) (cc cr:Nat) (t:T) (hD:Drawn t) (w:World) {z:Nat} (hc:ColsAt w z (.slice ac t.cols.length cc) t.cols) (hr:RowsAt w z (.slice ar t.rows.length cr) t.rows) :
  Calls Tryz.prog 26 #[.agg #[.slice ac t.cols.length cc,.int .i64 t.head,.int .i64 t.foot,.slice ar t.rows.length cr,.int .i64 t.gap]] w fun e w'=>∃ v,e=.returned v∧RowI w' w.heap.size w'.heap.size v (wishL t)∧Below w.heap.size w w':=by
 obtain ⟨_,C,hgc,hC,_⟩:=cel_of hD
 have HCN:=Hd (colN_of hgc)
 have HL:Hid (maxTo (needL t (wishP t)) (leastL t) C=wishL t):=by rw [Hid,wishL,HCN.out]
 have hNL:needTo (fun x=>((wishOf (textOf t x):Nat):Int)) t.gap (gOf t).cells (zeroL C) 4=needL t (wishP t):=by unfold needL;rw [HCN.out];rfl
 have hlen:=needL_len t (wishP t)
 have hlen2:=leastL_len t
 rw [HCN.out] at hlen hlen2
 have HUp:=Hd (needL_up hD (fun x=>(wishP_le t x).2))
 have HUp2:=Hd (leastL_up hD)
 have HK0:=Hd (k_alloc (Below.refl w.heap.size w) (.cells #[.slice ac t.cols.length cc,.int .i64 t.head,.int .i64 t.foot,.slice ar t.rows.length cr,.int .i64 t.gap] 26))
 have HX:=Hd (newestB w (.cells #[.slice ac t.cols.length cc,.int .i64 t.head,.int .i64 t.foot,.slice ar t.rows.length cr,.int .i64 t.gap] 26))
 have HT:=Hd (And.intro (hc.kept HK0.out) (hr.kept HK0.out))
 have hs1:(w.alloc (.cells #[.slice ac t.cols.length cc,.int .i64 t.head,.int .i64 t.foot,.slice ar t.rows.length cr,.int .i64 t.gap] 26)).heap.size=w.heap.size+1:=by simp
 have KE:=Hd (fun W h1 h2=>wideEnough_TxtWish (fun s=>((wishOf s:Nat):Int)) (fun s=>by have:=wishOf_le s;omega) wishN ac ar cc cr t hD W (z:=z) h1 h2 C hgc)
 have KL:=Hd (fun W h1 h2=>implColLeast ac ar cc cr t hD W (z:=z) h1 h2)
 rw [hNL] at KE
 generalize needL t (wishP t)=L at KE HL hlen HUp
 generalize leastL t=M at KL HL hlen2 HUp2
 clear hNL hc hr hD hgc
 go_enter Tryz.func26,Tryz.ntmps26
 go_upto_region 1 with fail
 generalize w.alloc (.cells #[.slice ac t.cols.length cc,.int .i64 t.head,.int .i64 t.foot,.slice ar t.rows.length cr,.int .i64 t.gap] 26)=W1 at HK0 HX HT hs1 ⊢
 obtain ⟨b0,b1,b2,b3,b4⟩:=fiveO HX.out
 go_wp2_with fail
 refine (KE.out _ HT.out.1 HT.out.2).mono ?_
 rintro e w2 ⟨v2,rfl,hR2,hb2⟩
 obtain ⟨a2,c2,rfl⟩:=hR2.form
 rw [hlen] at hR2 ⊢
 have HR2:=Hd hR2
 have HB2:=Hd hb2
 have HX2:=Hd ((hb2.block w.heap.size (by omega)).trans HX.out)
 have hz2:w.heap.size+1≤w2.heap.size:=by have:=hb2.size;omega
 clear hR2 hb2 b0 b1 b2 b3 b4 KE
 obtain ⟨b0,b1,b2,b3,b4⟩:=fiveO HX2.out
 have ht2:w.heap.size < w2.heap.size:=by omega
 go_wp2_with fail
 refine (KL.out _ (HT.out.1.kept HB2.out) (HT.out.2.kept HB2.out)).mono ?_
 rintro e w3 ⟨v3,rfl,hR3,hb3⟩
 obtain ⟨a3,c3,rfl⟩:=hR3.form
 rw [hlen2] at hR3 ⊢
 have HR3:=Hd (HR2.out.kept (fun j h0 _ _=>hb3.block j h0))
 have HM3:=Hd hR3
 have HB3:=Hd (k_trans HB2.out hb3)
 have hz3:w2.heap.size≤w3.heap.size:=hb3.size
 clear hR3 hb3 HR2 HB2 HX2 b0 b1 b2 b3 b4 ht2 KL
 go_wp2_with fail
 go_loopw [11] (fun s W=>∃ k:Nat,s=.int .i64 k∧k≤C∧Hid (RowI W W1.heap.size w2.heap.size (.slice a2 C c2) (maxTo L M k))∧Hid (RowI W w2.heap.size w3.heap.size (.slice a3 C c3) M)∧Hid (Below W1.heap.size W1 W)∧w3.heap.size≤W.heap.size) (fun s _=>C - (intOf s).toNat)
 case atStart=>exact ⟨0,rfl,Nat.zero_le _,HR3,HM3,HB3,Nat.le_refl _⟩
 case round =>
  clear HR3 HM3 HB3
  obtain ⟨k,rfl,hk,HR,HM,HB,hsz⟩:=hrel
  by_cases hlt:k < C
  case neg =>
   obtain rfl:k=C:=by omega
   have HF:=Hd (HR.out.base (B':=w.heap.size) (D':=wr.heap.size) (by omega) (by omega))
   have HK:=Hd (HK0.out.trans (HB.out.mono (by omega)))
   go_wp2
   go_ret
   exact ⟨_,rfl,by rw [← HL.out];exact HF.out,HK.out⟩
  obtain ⟨g,cap',e',hBg,hgD,hgw,hc1,hc2,hx,hf⟩:=HR.out.get (i:=k) (by rw [maxTo_len];omega)
  rw [maxTo_len,hlen] at e' hc1
  simp only [Value.slice.injEq,true_and] at e'
  obtain ⟨rfl,rfl⟩:=e'
  obtain ⟨g3,cap3,e3,hBg3,hgD3,hgw3,hc13,hc23,hy,_⟩:=HM.out.get (i:=k) (by omega)
  rw [hlen2] at e3 hc13
  simp only [Value.slice.injEq,true_and] at e3
  obtain ⟨rfl,rfl⟩:=e3
  unfold maxLen at hc2 hc23
  rw [maxTo_out L M k (Nat.le_refl _)] at hx
  have hxb:=HUp.out k (by omega)
  have hyb:=HUp2.out k (by omega)
  have HN:=Hd (HR.out.set (i:=k) (by rw [maxTo_len];omega) (max (L.getD k 0) (M.getD k 0)))
  have HE:Hid (maxTo L M (k+1)=(maxTo L M k).set k (max (L.getD k 0) (M.getD k 0))):=rfl
  rw [← HE.out] at HN
  have HM2:=Hd (HM.out.kept (w':=wr.setCell ⟨g,k,none⟩ (.int .i64 (max (L.getD k 0) (M.getD k 0)))) (fun i _ h1 _=>Below.heap_setCell _ _ _ _ (fun e=>by have e':i=g:=e;omega)))
  have HB2:=Hd (k_set HB.out (p:=⟨g,k,none⟩) hBg (.int .i64 (max (L.getD k 0) (M.getD k 0))))
  have hsz2:w3.heap.size≤(wr.setCell ⟨g,k,none⟩ (.int .i64 (max (L.getD k 0) (M.getD k 0)))).heap.size:=by rw [sizeSet];exact hsz
  generalize L.getD k 0=x at hx hxb HN HM2 HB2 hsz2
  generalize M.getD k 0=y at hy hyb HN HM2 HB2 hsz2
  clear HE
  go_wp2
  go_roundw
  case rel=>exact ⟨k+1,by go_num,by omega,HN,HM2,HB2,hsz2⟩
  case measure=>simp [intOf];omega
theorem want2_no {t:T} {L:List Int} {i:Nat} (hi:i < (want2 t L).length) (hP:kindP t 0 i=false):(want2 t L).getD i 0=0:=by
 rw [want2_get (by rw [want2_len] at hi;exact hi),if_neg (by rw [hP];simp)]
set_option maxRecDepth 100000 in
set_option maxHeartbeats 1000000 in
theorem impltoWishes (w0:World) (sb:Nat) (ac ar:Option Addr) (cc cr:Nat) (t:T) (width:Int) (g cap C D:Nat) (left:Int) (L:List Int) (hDr:Drawn t) {z:Nat} (hc:ColsAt w0 z (.slice ac t.cols.length cc) t.cols) (hr:RowsAt w0 z (.slice ar t.rows.length cr) t.rows) (hge:∀ j,j < C→kindP t 0 j=true→L.getD j 0≤(wishL t).getD j 0) (hC:C≤88) (hCt:C=colN t) (hLC:L.length=C) (hLs:L.all wtB=true) (hg0:w0.heap.size≤g) (hgD:g < D) (hDs:D≤sb) (hok:shrOkB left (want2 t L)=true) (w:World) (h:SpS w0 sb ac ar cc cr t width g cap C D left L w) :
  Calls Tryz.prog 47 #[.pointer (some ⟨sb,0,none⟩)] w fun e w'=>e=.returned (.tuple #[])∧SpS w0 sb ac ar cc cr t width g cap C D (upToN left (want2 t L)) (addL L (upToL left (want2 t L))) w'∧Bk2 g sb w w':=by
 have hmx:Tryz.prog.follows .mixedOrders=true:=by kernel_rfl
 obtain ⟨ok1,len1,all1,sum1,give1⟩:=step_lists (P:=kindP t 0) (want2_len t L) hok (fun i hi hP=>want2_no hi hP)
 rw [hLC] at ok1 len1 all1 sum1 give1
 have HTl:=Hd (selL_len (want2 t L) (kindP t 0) C)
 have HTg:=Hd (fun k (hk:k < (selN (kindP t 0) C).length)=>selL_get (l:=want2 t L) hk)
 have HW:=Hd (fun j (hj:j < C) (hP:kindP t 0 j=true)=>(want2_get (t:=t) (l:=L) (k:=j) (by omega)).trans (if_pos hP))
 have HGe:=Hd hge
 have HWu:=Hd (wishL_up hDr)
 have HWl:Hid ((wishL t).length=C):=by rw [Hid,wishL_len,hCt]
 have KWi:=Hd (implColWish ac ar cc cr t hDr w (hc.kept h.bel) (hr.kept h.bel))
 have HLt:=Hd (fun k (hk:k < (selN (kindP t 0) C).length)=>selN_lt hk)
 have hnl:=selN_le (kindP t 0) C
 have HC:=Hd hc
 have H:=Hd h
 have KO:=Hd (fun W (h:SpS w0 sb ac ar cc cr t width g cap C D left L W)=>implofKind sb ac ar cc cr t width g cap C left 0 hC W h.sp (hc.kept h.bel))
 have hmk:=makeI (selN (kindP t 0) C).length (by omega)
 have HG1:=Hd give1
 have HSum:=Hd sum1
 have HA1:=Hd all1
 have HLn:=Hd len1
 have hleft:=(shrOk_parts hok).1
 have HOk:=Hd ok1
 generalize selN (kindP t 0) C=js at *
 generalize hT:selL (want2 t L) (kindP t 0) C=T at *
 clear h hc hr hge give1 sum1 all1 len1 ok1 hok hT
 have hTl:=HTl.out
 have s0:w.cell? ⟨sb,0,none⟩=some (.slice ac t.cols.length cc):=cellB (p:=0) H.out.sp
 have s1:w.cell? ⟨sb,1,none⟩=some (.int .i64 t.head):=cellB (p:=1) H.out.sp
 have s2:w.cell? ⟨sb,2,none⟩=some (.int .i64 t.foot):=cellB (p:=2) H.out.sp
 have s3:w.cell? ⟨sb,3,none⟩=some (.slice ar t.rows.length cr):=cellB (p:=3) H.out.sp
 have s4:w.cell? ⟨sb,4,none⟩=some (.int .i64 t.gap):=cellB (p:=4) H.out.sp
 go_enter Tryz.func47,Tryz.ntmps47
 go_wp2_with fail
 refine KWi.out.mono ?_
 rintro e wa ⟨va,rfl,hra,hba⟩
 obtain ⟨aw,cw,rfl⟩:=hra.form
 rw [HWl.out] at hra ⊢
 have HRa:=Hd hra
 have Ha:=Hd (H.out.kept hba)
 have HBa:=Hd hba
 have hza:=hba.size
 clear hra hba KWi s0 s1 s2 s3 s4
 go_wp2_with fail
 refine (KO.out _ Ha.out).mono ?_
 rintro e w1 ⟨v1,rfl,hr1,hb1⟩
 obtain ⟨a1,c1,rfl⟩:=hr1.form
 rw [natL_len] at hr1 ⊢
 have HRb:=Hd (HRa.out.kept (fun j h0 _ _=>hb1.block j h0))
 have HR1:=Hd hr1
 have HS1:=Hd (Ha.out.kept hb1)
 have HB1:=Hd (k_trans HBa.out hb1)
 have hz1:=hb1.size
 clear hr1 hb1 KO HRa Ha HBa
 have hn2:(w1.alloc (.cells (newI js.length) 3)).heap.size=w1.heap.size+1:=by simp
 have HN:=Hd (row_new w1 js.length (by omega))
 have hA2:=k_alloc (Below.refl w1.heap.size w1) (.cells (newI js.length) 3)
 go_upto_region 3 with fail
 have HRc:=Hd (HRb.out.kept (w':=w1.alloc (.cells (newI js.length) 3)) (fun j h0 _ _=>hA2.block j h0))
 have hwa:wa.heap.size≤w1.heap.size:=hz1
 have HS2:=Hd (HS1.out.kept hA2)
 have HR2:=Hd (HR1.out.kept (w':=w1.alloc (.cells (newI js.length) 3)) (fun j h0 _ _=>hA2.block j h0))
 have HB2:=Hd (k_trans HB1.out hA2)
 have hD2:D≤w1.heap.size:=by have:=HS1.out.sp.lt;omega
 have hsb1:sb < w1.heap.size:=HS1.out.sp.lt
 have hsbw:sb < w.heap.size:=H.out.sp.lt
 have hw0:w0.heap.size≤w1.heap.size:=HS1.out.bel.size
 clear HS1 HR1 HB1 hA2 H HRb
 generalize w1.alloc (.cells (newI js.length) 3)=W2 at HN HS2 HR2 HB2 HRc hn2 ⊢
 generalize w1.heap.size=gb at HN HR2 hn2 hD2 hsb1 hz1 hw0 hwa ⊢
 go_wp2_with fail
 go_loopw [21] (fun s W=>∃ k:Nat,s=.int .i64 k∧k≤js.length∧Hid (RowI W gb (gb+1) (.slice (some ⟨gb,0,none⟩) js.length js.length) (fillL T k))∧Hid (Bk gb W2 W)) (fun s _=>js.length - (intOf s).toNat)
 case atStart=>exact ⟨0,rfl,Nat.zero_le _,by rw [fillL_zero,hTl];exact HN,Bk.refl _ _⟩
 case round =>
  clear HN
  obtain ⟨k,rfl,hk,HF,HB⟩:=hrel
  have HS:=Hd (HS2.out.bk HB.out hw0 (by omega) hD2)
  have HR:=Hd (HR2.out.kept (fun j h0 _ h2=>HB.out.block j h0 (by omega)))
  by_cases hlt:k < js.length
  case pos =>
   obtain ⟨b1,c1',e1,hb1B,_,hb1w,hc11,hc12,hx1,_⟩:=HR.out.get (i:=k) (by rw [natL_len];exact hlt)
   rw [natL_len] at e1 hc11
   rw [natL_get hlt] at hx1
   simp only [Value.slice.injEq,true_and] at e1
   obtain ⟨rfl,rfl⟩:=e1
   obtain ⟨hjC,hjP⟩:=HLt.out k hlt
   have hTk:=HTg.out k hlt
   have hjj:js[k]=js.getD k 0:=by simp [List.getD,hlt]
   rw [hjj] at hTk
   rw [HW.out _ hjC hjP] at hTk
   have hgej:=HGe.out _ hjC hjP
   obtain ⟨b2,c2',e2,_,_,hb2w,hc21,hc22,hx2,_⟩:=(HRc.out.kept (fun j h0 _ h2=>HB.out.block j h0 (by omega))).get (i:=js.getD k 0) (by rw [HWl.out];exact hjC)
   rw [HWl.out] at e2 hc21
   simp only [Value.slice.injEq,true_and] at e2
   obtain ⟨rfl,rfl⟩:=e2
   have hws:=HWu.out (js.getD k 0) (by rw [HWl.out];exact hjC)
   obtain ⟨g',cap',e3,_,_,hgw,hc31,hc32,hx3,_⟩:=HS.out.row.get (i:=js.getD k 0) (by omega)
   rw [hLC] at e3 hc31
   simp only [Value.slice.injEq,Option.some.injEq,Addr.mk.injEq,and_true,true_and] at e3
   obtain ⟨rfl,rfl⟩:=e3
   have hxs:=getD_small hLs (js.getD k 0)
   generalize js.getD k 0=j at *
   generalize L.getD j 0=x at *
   generalize (wishL t).getD j 0=y at *
   rw [show max 0 (y - x)=y - x by omega] at hTk
   unfold maxLen at hc12 hc22 hc32
   have HFx:=Hd (fillL_succ (l:=T) (k:=k) (by omega))
   rw [hTk] at HFx
   have hne:=bw_some wr
   have m0:=bw_cell (a:=⟨sb,6,none⟩) HS.out.sp.lt (cellB (p:=6) HS.out.sp)
   have m1:=bw_cell (a:=⟨g,j,none⟩) hgw hx3
   have m2:=bw_cell (a:=⟨b2,j,none⟩) hb2w hx2
   clear hx2 hx3 hTk hjP
   go_upto_region 6 with fail
   clear hx1
   refine wp_region_last 15 hmx (by rfl) (by rfl) (by kernel_rfl) (by kernel_rfl) ?_
   simp only [List.take_succ_cons,List.take_zero]
   repeat (go_big_quiet_step (fail))
   refine wpQuiet_nil ?_
   intro W5 hw'
   obtain ⟨⟨Wx,hW5⟩,hw''⟩:=hw'
   subst hw''
   have HF5:=Hd (HF.out.kept (fun i h0 _ _=>hW5.block i h0))
   have HB5:=Hd (HB.out.trans (Bk.of_below hW5))
   obtain ⟨g5,cap5,e5,_,_,hgw5,_,_,hx5,hf5⟩:=HF5.out.get (i:=k) (by rw [fillL_len T (by omega)];omega)
   simp only [Value.slice.injEq,Option.some.injEq,Addr.mk.injEq,and_true] at e5
   have eg:=e5.1
   clear e5
   subst eg
   have HF6:=Hd (HF5.out.set (i:=k) (by rw [fillL_len T (by omega)];omega) (y - x))
   rw [← HFx.out] at HF6
   clear m0 m1 m2 hne hW5 HF HB HF5 HFx
   rw [if_pos (by rfl)]
   go_simp
   go_wp2
   go_roundw
   case rel=>exact ⟨k+1,by go_num,by omega,HF6,HB5.out.set (p:=⟨gb,k,none⟩) (.inl rfl) _⟩
   case measure=>simp [intOf];omega
  case neg =>
   obtain rfl:k=js.length:=by omega
   have s7:wr.cell? ⟨sb,7,none⟩=some (.int .i64 left):=cellB (p:=7) HS.out.sp
   have HF':Hid (RowI wr gb (gb+1) (.slice (some ⟨gb,0,none⟩) js.length js.length) T):=by rw [← fillL_all T,hTl];exact HF
   have KU:=Hd (shareUpTo_any left _ T HOk.out wr HF'.out.at)
   go_wp2_with fail
   refine KU.out.mono ?_
   rintro e w5 ⟨v5,rfl,hr5,hb5⟩
   obtain ⟨a5,c5,rfl⟩:=hr5.form
   have hz5:=hb5.size
   have hzr:=HB.out.size
   have KG:=Hd (implgive sb ac ar cc cr t width g cap C left L (upToL left T) js (.slice a1 js.length c1) (.slice a5 (upToL left T).length c5) w0.heap.size D w.heap.size hLC (fun k hk=>(HLt.out k hk).1) (by omega) HLn.out hLs HA1.out hleft hgD hDs hsbw w5 (HS.out.kept hb5).sp (HS.out.kept hb5).row ((HR.out.kept (fun j h0 _ _=>hb5.block j h0)).base (by omega) (by omega)) (hr5.base (by omega) (Nat.le_refl _)))
   have HB6:=Hd ((HB2.out.trans (HB.out.below (n:=w.heap.size) (by omega) (by omega))).trans (hb5.mono (by omega)))
   have HL6:=Hd ((HS.out.kept hb5).bel)
   clear KU s7
   go_wp2_with fail
   refine KG.out.mono ?_
   rintro e w6 ⟨rfl,hs6,hr6,hb6⟩
   have HF6:=Hd (SpS.mk (HL6.out.trans (hb6.below HL6.out.size hg0 (by omega))) hs6 hr6)
   rw [HSum.out,HG1.out] at HF6
   have HK6:=Hd ((Bk2.of_below HB6.out).trans hb6)
   clear hs6 hr6 hb6
   go_wp2
   go_end0
   exact ⟨rfl,HF6.out,HK6.out⟩
def CondW (t:T) (width:Int) (k:Nat) (left:Int) (L:List Int):Prop :=
 (k=0∧L=leastL t∧left=restV t width) ∨
 (k=1∧(0 < restV t width∧L=out1 t width∧left=left1 t width∨left≤0∧L=widL t width)) ∨
 (k=2∧(0 < restV t width∧L=out2 t width∧left=left2 t width∨left≤0∧L=widL t width)) ∨
 (k=3∧L=widL t width)
theorem cond3 {t:T} {width left:Int} {L:List Int} (h:CondW t width 3 left L):L=widL t width:=by
 rcases h with ⟨h,_⟩ | ⟨h,_⟩ | ⟨h,_⟩ | ⟨_,h⟩
 ·omega
 ·omega
 ·omega
 ·exact h
theorem cond_no {t:T} {width left:Int} {L:List Int} {k:Nat} (h:CondW t width k left L) (hn:¬ 0 < left) (hk:k < 3) (h0:restV t width≤0→widL t width=leastL t) (h1:0 < restV t width→left1 t width≤0→widL t width=out1 t width) (h2:0 < restV t width→left2 t width≤0→widL t width=out2 t width):CondW t width (k+1) left L:=by
 rcases h with ⟨rfl,rfl,rfl⟩ | ⟨rfl,h⟩ | ⟨rfl,h⟩ | ⟨h,_⟩
 ·exact .inr (.inl ⟨rfl,.inr ⟨by omega,(h0 (by omega)).symm⟩⟩)
 ·refine .inr (.inr (.inl ⟨rfl,.inr ?_⟩))
  rcases h with ⟨a,rfl,rfl⟩ | ⟨a,b⟩
  ·exact ⟨by omega,(h1 a (by omega)).symm⟩
  ·exact ⟨a,b⟩
 ·refine .inr (.inr (.inr ⟨rfl,?_⟩))
  rcases h with ⟨a,rfl,rfl⟩ | ⟨a,b⟩
  ·exact (h2 a (by omega)).symm
  ·exact b
 ·omega
theorem cond_yes {t:T} {width left:Int} {L:List Int} {k:Nat} (h:CondW t width k left L) (hp:0 < left) (hk:k < 3):0 < restV t width∧(k=0∧L=leastL t∧left=restV t width∨k=1∧L=out1 t width∧left=left1 t width∨k=2∧L=out2 t width∧left=left2 t width):=by
 rcases h with ⟨rfl,rfl,rfl⟩ | ⟨rfl,h⟩ | ⟨rfl,h⟩ | ⟨h,_⟩
 ·exact ⟨hp,.inl ⟨rfl,rfl,rfl⟩⟩
 ·rcases h with ⟨a,rfl,rfl⟩ | ⟨a,b⟩
  ·exact ⟨a,.inr (.inl ⟨rfl,rfl,rfl⟩)⟩
  ·omega
 ·rcases h with ⟨a,rfl,rfl⟩ | ⟨a,b⟩
  ·exact ⟨a,.inr (.inr ⟨rfl,rfl,rfl⟩)⟩
  ·omega
 ·omega
set_option maxRecDepth 100000 in
set_option maxHeartbeats 1000000 in
theorem implWidCols (ac ar:Option Addr) (cc cr:Nat) (t:T) (hD:Drawn t) (width:Int) (w:World) {z:Nat} (hc:ColsAt w z (.slice ac t.cols.length cc) t.cols) (hr:RowsAt w z (.slice ar t.rows.length cr) t.rows) :
  Calls Tryz.prog 17 #[.agg #[.slice ac t.cols.length cc,.int .i64 t.head,.int .i64 t.foot,.slice ar t.rows.length cr,.int .i64 t.gap],.int .i64 width] w fun e w'=>∃ v,e=.returned v∧RowI w' w.heap.size w'.heap.size v (widT t width)∧Below w.heap.size w w':=by
 have hmx:Tryz.prog.follows .mixedOrders=true:=by kernel_rfl
 have hmf:∀ (fn:Fn) (first cap:Array Value) (W:World),(Instr.makeFunc fn first cap).run Tryz.prog W=.ok (.func fn first cap) W:=fun _ _ _ _=>rfl
 have HK0:=Hd (k_alloc (Below.refl w.heap.size w) (.cells #[.slice ac t.cols.length cc,.int .i64 t.head,.int .i64 t.foot,.slice ar t.rows.length cr,.int .i64 t.gap] 26))
 have HX:=Hd (newestB w (.cells #[.slice ac t.cols.length cc,.int .i64 t.head,.int .i64 t.foot,.slice ar t.rows.length cr,.int .i64 t.gap] 26))
 have HT:=Hd (And.intro (hc.kept HK0.out) (hr.kept HK0.out))
 have HT0:=Hd (And.intro hc hr)
 have hs1:(w.alloc (.cells #[.slice ac t.cols.length cc,.int .i64 t.head,.int .i64 t.foot,.slice ar t.rows.length cr,.int .i64 t.gap] 26)).heap.size=w.heap.size+1:=by simp
 clear hc hr
 go_enter Tryz.func17,Tryz.ntmps17
 go_upto_region 1 with fail
 generalize w.alloc (.cells #[.slice ac t.cols.length cc,.int .i64 t.head,.int .i64 t.foot,.slice ar t.rows.length cr,.int .i64 t.gap] 26)=W1 at HK0 HX HT hs1 ⊢
 have b0:W1.cell? ⟨w.heap.size,0,none⟩=some (.slice ac t.cols.length cc):=cellB HX.out
 have b1:W1.cell? ⟨w.heap.size,1,none⟩=some (.int .i64 t.head):=cellB HX.out
 have b2:W1.cell? ⟨w.heap.size,2,none⟩=some (.int .i64 t.foot):=cellB HX.out
 have b3:W1.cell? ⟨w.heap.size,3,none⟩=some (.slice ar t.rows.length cr):=cellB HX.out
 have b4:W1.cell? ⟨w.heap.size,4,none⟩=some (.int .i64 t.gap):=cellB HX.out
 have KM:=Hd (implmayBeWide ac ar cc cr t width _ HT.out.1 HT.out.2)
 cases hmay:(tblB t && inB width 0 300) with
 | false =>
  have HW:Hid (widT t width=[]):=by rw [Hid,widT,if_neg (by rw [hmay];simp)]
  rw [hmay] at KM
  clear hmay
  go_wp2_with fail
  refine KM.out.mono ?_
  rintro e w2 ⟨rfl,hb2⟩
  have HK2:=Hd (k_trans HK0.out hb2)
  clear hb2 KM b0 b1 b2 b3 b4
  go_wp2
  go_ret
  exact ⟨_,rfl,by rw [HW.out];exact .inl ⟨rfl,rfl⟩,HK2.out⟩
 | true =>
  have HW:Hid (widT t width=widL t width):=by rw [Hid,widT,if_pos hmay]
  rw [hmay] at KM
  rw [Bool.and_eq_true] at hmay
  obtain ⟨htk,hin⟩:=hmay
  have hw:0≤width∧width≤300:=by simpa [inB] using hin
  obtain ⟨hC1,hC88,hacr,ha0,ha1,hall⟩:=acr_least hD htk
  have hlen:=leastL_len t
  have HrV:Hid (restV t width=width - acrV (leastL t) t.gap):=by rw [Hid,hacr];rfl
  have HA:=Hd (fun W v (h:IntsAt W v (leastL t))=>implacrossAll v (leastL t) t.gap W h)
  generalize acrV (leastL t) t.gap=A at HrV HA ha0 ha1 hacr
  clear hacr
  go_wp2_with fail
  refine KM.out.mono ?_
  rintro e w2 ⟨rfl,hb2⟩
  have X2:=(hb2.block w.heap.size (by omega)).trans HX.out
  have HK2:=Hd (k_trans HK0.out hb2)
  have hz2:w.heap.size+1≤w2.heap.size:=by have:=hb2.size;omega
  clear hb2 KM b0 b1 b2 b3 b4 HX HT
  have b0:w2.cell? ⟨w.heap.size,0,none⟩=some (.slice ac t.cols.length cc):=cellB X2
  have b1:w2.cell? ⟨w.heap.size,1,none⟩=some (.int .i64 t.head):=cellB X2
  have b2:w2.cell? ⟨w.heap.size,2,none⟩=some (.int .i64 t.foot):=cellB X2
  have b3:w2.cell? ⟨w.heap.size,3,none⟩=some (.slice ar t.rows.length cr):=cellB X2
  have b4:w2.cell? ⟨w.heap.size,4,none⟩=some (.int .i64 t.gap):=cellB X2
  have HX2:=Hd X2
  clear X2
  go_wp2_with fail
  refine (implColLeast ac ar cc cr t hD _ (HT0.out.1.kept HK2.out) (HT0.out.2.kept HK2.out)).mono ?_
  rintro e w3 ⟨v3,rfl,hR3,hb3⟩
  obtain ⟨g,cap,e3,hgB,hgD,hgw,hc1,hc2,_,_⟩:=hR3.get (i:=0) (by omega)
  subst e3
  have X3:=(hb3.block w.heap.size (by omega)).trans HX2.out
  have HK3:=Hd (k_trans HK2.out hb3)
  have HR3:=Hd hR3
  have hz3:=hb3.size
  clear hb3 b0 b1 b2 b3 b4 HX2 HK2 hR3
  go_upto_region 4 with fail
  rw [hlen] at HR3
  have l3:w.heap.size < w3.heap.size:=by omega
  have hne:=bw_some w3
  have m0:=bw_cell (a:=⟨w.heap.size,0,none⟩) l3 (cellB (p:=0) X3)
  have m1:=bw_cell (a:=⟨w.heap.size,1,none⟩) l3 (cellB (p:=1) X3)
  have m2:=bw_cell (a:=⟨w.heap.size,2,none⟩) l3 (cellB (p:=2) X3)
  have m3:=bw_cell (a:=⟨w.heap.size,3,none⟩) l3 (cellB (p:=3) X3)
  have m4:=bw_cell (a:=⟨w.heap.size,4,none⟩) l3 (cellB (p:=4) X3)
  have KA:=Hd (fun (p:BW w3)=>bw_same (HA.out p.u _ (HR3.out.at.kept p.h)))
  refine wp_region_tail 10 1 hmx (by rfl) (by rfl) (by kernel_rfl) (by kernel_rfl) (by kernel_rfl) ?_
  simp only [List.take_succ_cons,List.take_zero]
  repeat (go_big_quiet_step (first | (go_at_call 31;refine KA.out _)))
  refine wpQuiet_nil ?_
  intro W5 hw'
  obtain ⟨⟨Wx,hW5⟩,hw''⟩:=hw'
  subst hw''
  have X5:=(hW5.block w.heap.size l3).trans X3
  have HK5:=Hd (k_trans HK3.out hW5)
  have HR5:=Hd (HR3.out.kept (fun j h0 _ _=>hW5.block j h0))
  have hz5:=hW5.size
  have HS5:=Hd (newestB W5 (.cells #[.slice ac t.cols.length cc,.int .i64 t.head,.int .i64 t.foot,.slice ar t.rows.length cr,.int .i64 t.gap,.int .i64 width,.slice (some ⟨g,0,none⟩) (colN t) cap,.int .i64 (width - A)] 81))
  clear m0 m1 m2 m3 m4 hne hW5 X3 HR3 HK3 KA X5
  rw [if_pos (by rfl)]
  go_simp
  refine wpAny_ready (rs:=[11]) (by kernel_rfl) (by simp) ?_
  refine AllReady.cons rfl (fun K hK=>?_) AllReady.nil
  go_simp
  refine hK _ _ ?_
  clear hK K
  refine wpAny_done (by kernel_rfl) ?_ _
  have HS6:=Hd (SpS.mk (w0:=w) (D:=W5.heap.size) (k_alloc HK5.out _) HS5.out ((HR5.out.kept (w':=W5.alloc (.cells #[.slice ac t.cols.length cc,.int .i64 t.head,.int .i64 t.foot,.slice ar t.rows.length cr,.int .i64 t.gap,.int .i64 width,.slice (some ⟨g,0,none⟩) (colN t) cap,.int .i64 (width - A)] 81)) (fun j h0 _ _=>Below.heap_alloc _ _ _ h0)).base (by omega) (by omega)))
  rw [← HrV.out] at HS6 ⊢
  have hg0:w.heap.size≤g:=by omega
  have hgD5:g < W5.heap.size:=by omega
  have hs6:(W5.alloc (.cells #[.slice ac t.cols.length cc,.int .i64 t.head,.int .i64 t.foot,.slice ar t.rows.length cr,.int .i64 t.gap,.int .i64 width,.slice (some ⟨g,0,none⟩) (colN t) cap,.int .i64 (restV t width)] 81)).heap.size=W5.heap.size+1:=by simp
  generalize W5.alloc (.cells #[.slice ac t.cols.length cc,.int .i64 t.head,.int .i64 t.foot,.slice ar t.rows.length cr,.int .i64 t.gap,.int .i64 width,.slice (some ⟨g,0,none⟩) (colN t) cap,.int .i64 (restV t width)] 81)=W6 at HS6 hs6 ⊢
  generalize W5.heap.size=sb at HS6 hs6 hgD5 ⊢
  clear HS5 HR5 HK5 hz5
  go_upto_region 6 with fail
  have HS7:=Hd (HS6.out.kept (k_alloc (Below.refl W6.heap.size W6) (.cells #[.func (.func 46) #[.pointer (some ⟨sb,0,none⟩)] #[],.func (.func 47) #[.pointer (some ⟨sb,0,none⟩)] #[],.func (.func 48) #[.pointer (some ⟨sb,0,none⟩)] #[]] 1)))
  have HF7:=Hd (newestB W6 (.cells #[.func (.func 46) #[.pointer (some ⟨sb,0,none⟩)] #[],.func (.func 47) #[.pointer (some ⟨sb,0,none⟩)] #[],.func (.func 48) #[.pointer (some ⟨sb,0,none⟩)] #[]] 1))
  rw [hs6] at HF7
  generalize W6.alloc (.cells #[.func (.func 46) #[.pointer (some ⟨sb,0,none⟩)] #[],.func (.func 47) #[.pointer (some ⟨sb,0,none⟩)] #[],.func (.func 48) #[.pointer (some ⟨sb,0,none⟩)] #[]] 1)=W7 at HS7 HF7 ⊢
  clear HS6 hs6
  have HWno:=Hd (fun h=>wid_no (t:=t) (width:=width) h)
  have HW1:=Hd (fun h=>wid_one hD htk hw hC88 h)
  have HW2:=Hd (fun h=>wid_two hD htk hw hC88 h)
  have HWr:=Hd (fun h=>wid_rest (t:=t) (width:=width) h)
  have HSt:=Hd (fun h=>wid_steps hD htk hw h)
  have HSm:=Hd (fun h=>out1_small hD htk hw h)
  have HOw:=Hd (fun h (j:Nat) (hj:j < colN t) (hP:kindP t 0 j=true)=>out1_wish hD htk hw h hj hP)
  go_wp2_with fail
  go_loopw [36] (fun s W=>∃ (k:Nat) (left:Int) (L:List Int),s=.int .i64 k∧k≤3∧Hid (SpS w sb ac ar cc cr t width g cap (colN t) sb left L W)∧Hid (W.heap[sb+1]?=some (.cells #[.func (.func 46) #[.pointer (some ⟨sb,0,none⟩)] #[],.func (.func 47) #[.pointer (some ⟨sb,0,none⟩)] #[],.func (.func 48) #[.pointer (some ⟨sb,0,none⟩)] #[]] 1))∧Hid (CondW t width k left L)) (fun s _=>3 - (intOf s).toNat)
  case atStart=>exact ⟨0,_,_,rfl,Nat.zero_le _,HS7,HF7,.inl ⟨rfl,rfl,rfl⟩⟩
  case round =>
   obtain ⟨k,left,L,rfl,hk,HS,HF,HC⟩:=hrel
   have s7:wr.cell? ⟨sb,7,none⟩=some (.int .i64 left):=cellB (p:=7) HS.out.sp
   have s6:wr.cell? ⟨sb,6,none⟩=some (.slice (some ⟨g,0,none⟩) (colN t) cap):=cellB (p:=6) HS.out.sp
   have f0:wr.cell? ⟨sb+1,0,none⟩=some (.func (.func 46) #[.pointer (some ⟨sb,0,none⟩)] #[]):=cellB (p:=0) HF.out
   have f1:wr.cell? ⟨sb+1,1,none⟩=some (.func (.func 47) #[.pointer (some ⟨sb,0,none⟩)] #[]):=cellB (p:=1) HF.out
   have f2:wr.cell? ⟨sb+1,2,none⟩=some (.func (.func 48) #[.pointer (some ⟨sb,0,none⟩)] #[]):=cellB (p:=2) HF.out
   by_cases hk3:k=3
   ·subst hk3
    have HL:=Hd (cond3 HC.out)
    go_wp2
    go_ret
    exact ⟨_,rfl,by rw [HW.out,← HL.out];exact HS.out.row.base (Nat.le_refl _) (Nat.le_of_lt HS.out.sp.lt),HS.out.bel⟩
   by_cases hpos:0 < left
   case neg =>
    have HN:=Hd (cond_no HC.out hpos (by omega) HWno.out HW1.out HW2.out)
    rcases (by omega:k=0∨k=1∨k=2) with rfl | rfl | rfl
    all_goals
     go_wp2
     go_roundw
     case rel=>exact ⟨_,left,L,by go_num,by omega,HS,HF,HN⟩
     case measure=>simp [intOf]
   case pos =>
    obtain ⟨hV,hst⟩:=cond_yes HC.out hpos (by omega)
    clear HC
    rcases hst with ⟨rfl,rfl,rfl⟩ | ⟨rfl,rfl,rfl⟩ | ⟨rfl,rfl,rfl⟩
    ·have hst:=HSt.out hV
     have HKe:=Hd (impltoParts w sb ac ar cc cr t width g cap (colN t) sb (restV t width) (leastL t) HT0.out.1 hC88 rfl hlen hall hg0 hgD5 (Nat.le_refl _) hw hst.1 wr HS.out)
     clear hst
     go_wp2_with (go_at_call 46;refine HKe.out.mono ?_;rintro e w8 ⟨rfl,hS8,hb8⟩;replace HF:=Hd ((hb8.block (sb+1) (bL HF.out) (by omega) (by omega)).trans HF.out);clear hb8 HKe s6 s7 f0 f1 f2)
     go_roundw
     case rel=>exact ⟨1,_,_,by go_num,by omega,hS8,HF,.inr (.inl ⟨rfl,.inl ⟨hV,rfl,rfl⟩⟩)⟩
     case measure=>simp [intOf]
    ·have hst:=HSt.out hV
     have HKe:=Hd (impltoWishes w sb ac ar cc cr t width g cap (colN t) sb (left1 t width) (out1 t width) hD HT0.out.1 HT0.out.2 (HOw.out hV) hC88 rfl hst.2.2.2.1 (HSm.out hV).1 hg0 hgD5 (Nat.le_refl _) hst.2.1 wr HS.out)
     clear hst
     go_wp2_with (go_at_call 47;refine HKe.out.mono ?_;rintro e w8 ⟨rfl,hS8,hb8⟩;replace HF:=Hd ((hb8.block (sb+1) (bL HF.out) (by omega) (by omega)).trans HF.out);clear hb8 HKe s6 s7 f0 f1 f2)
     go_roundw
     case rel=>exact ⟨2,_,_,by go_num,by omega,hS8,HF,.inr (.inr (.inl ⟨rfl,.inl ⟨hV,rfl,rfl⟩⟩))⟩
     case measure=>simp [intOf]
    ·have hst:=HSt.out hV
     have HKe:=Hd (impltoTheRest w sb ac ar cc cr t width g cap (colN t) sb (left2 t width) (out2 t width) HT0.out.1 hC88 hst.2.2.2.2.1 (HSm.out hV).2 hg0 hgD5 (Nat.le_refl _) (by have:=hst.2.2.1;omega) wr HS.out)
     clear hst
     go_wp2_with (go_at_call 48;refine HKe.out.mono ?_;rintro e w8 ⟨rfl,⟨left8,hS8⟩,hb8⟩;replace HF:=Hd ((hb8.block (sb+1) (bL HF.out) (by omega) (by omega)).trans HF.out);clear hb8 HKe s6 s7 f0 f1 f2)
     go_roundw
     case rel=>exact ⟨3,_,_,by go_num,by omega,hS8,HF,.inr (.inr (.inr ⟨rfl,(HWr.out hV).symm⟩))⟩
     case measure=>simp [intOf]
end Go.Proofs.YtggmjiddadjilaeGreat
