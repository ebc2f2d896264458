/-
  PROVED HERE: the program's ColLeast at a drawn table is the list leastL, in memory of its own; nothing that was in memory is turned. Also: 3 more texts of the same proof.
-/
import Derived.Test.YtojogjlblgcioanGreatC34
import Derived.Test.YtojogjlblgcioanGreatC37
import Derived.Test.YtojogjlblgcioanGreatC26
import Derived.Test.YtojogjlblgcioanGreatC33
import Derived.Test.YtojogjlblgcioanGreatC30
import Derived.Test.YtojogjlblgcioanGreatC35
import Derived.Test.YtojogjlblgcioanGreatC23
import Derived.Test.YtojogjlblgcioanGreatC31
import Derived.Deep.DeepCutAuto
import Derived.Deep.RegionWith
import Derived.Deep.QuietTactic
import Derived.BigQuiet
namespace Go.Proofs.YtojogjlblgcioanGreat
open Go.RowKit Go.BigFrame
theorem leastN (s:ByteArray) (W:World) (h:s.size≤maxLen):Calls Tryz.prog 97 #[.string s] W fun e w'=>e=.returned (.int .i64 ((leastOf (wordsW s):Nat):Int))∧Below W.heap.size W w':=implTxtLeast s h W
set_option maxRecDepth 100000 in
set_option maxHeartbeats 1000000 in
theorem implColLeast (ac ar:Option Addr) (cc cr:Nat) (t:T) (hD:Drawn t) (w:World) {z:Nat} (hc:ColsAt w z (.slice ac t.cols.length cc) t.cols) (hr:RowsAt w z (.slice ar t.rows.length cr) t.rows) :
  Calls Tryz.prog 45 #[.agg #[.slice ac t.cols.length cc,.int .i64 t.head,.int .i64 t.foot,.slice ar t.rows.length cr,.int .i64 t.gap]] w fun e w'=>∃ v,e=.returned v∧RowI w' w.heap.size w'.heap.size v (leastL t)∧Below w.heap.size w w':=by
 obtain ⟨_,C,hgc,hC,_⟩:=cel_of hD
 have HCN:=Hd (colN_of hgc)
 have HL:Hid (fixTo t.cols (needL t (leastP t)) C=leastL t):=by rw [Hid,leastL,HCN.out]
 have hNL:needTo (fun x=>((leastOf (wordsW (textOf t x)):Nat):Int)) t.gap (gOf t).cells (zeroL C) 4=needL t (leastP t):=by unfold needL;rw [HCN.out];rfl
 have hlen:=needL_len t (leastP t)
 rw [HCN.out] at hlen
 have HUp:=Hd (needL_up hD (fun x=>(leastP_le t x).2))
 have HSd:=Hd (fun k (hk:k < C)=>sd_small (t:=t) (k:=k) (by rw [HCN.out];exact hk))
 have hmx:Tryz.prog.follows .mixedOrders=true:=by kernel_rfl
 have HK0:=Hd (k_alloc (Below.refl w.heap.size w) (.cells #[.slice ac t.cols.length cc,.int .i64 t.head,.int .i64 t.foot,.slice ar t.rows.length cr,.int .i64 t.gap] 26))
 have HX:=Hd (newestB w (.cells #[.slice ac t.cols.length cc,.int .i64 t.head,.int .i64 t.foot,.slice ar t.rows.length cr,.int .i64 t.gap] 26))
 have HT:=Hd (And.intro (hc.kept HK0.out) (hr.kept HK0.out))
 have hs1:(w.alloc (.cells #[.slice ac t.cols.length cc,.int .i64 t.head,.int .i64 t.foot,.slice ar t.rows.length cr,.int .i64 t.gap] 26)).heap.size=w.heap.size+1:=by simp
 have KE:=Hd (fun W h1 h2=>wideEnough_TxtLeast (fun s=>((leastOf (wordsW s):Nat):Int)) (fun s=>by have:=leastOf_le (wordsW s);omega) leastN ac ar cc cr t hD W (z:=z) h1 h2 C hgc)
 rw [hNL] at KE
 generalize needL t (leastP t)=L at KE HL hlen HUp
 clear hNL hc hr hD hgc
 go_enter Tryz.func45,Tryz.ntmps45
 go_upto_region 1 with fail
 generalize w.alloc (.cells #[.slice ac t.cols.length cc,.int .i64 t.head,.int .i64 t.foot,.slice ar t.rows.length cr,.int .i64 t.gap] 26)=W1 at HK0 HX HT hs1 ⊢
 have b0:W1.cell? ⟨w.heap.size,0,none⟩=some (.slice ac t.cols.length cc):=cellB HX.out
 have b1:W1.cell? ⟨w.heap.size,1,none⟩=some (.int .i64 t.head):=cellB HX.out
 have b2:W1.cell? ⟨w.heap.size,2,none⟩=some (.int .i64 t.foot):=cellB HX.out
 have b3:W1.cell? ⟨w.heap.size,3,none⟩=some (.slice ar t.rows.length cr):=cellB HX.out
 have b4:W1.cell? ⟨w.heap.size,4,none⟩=some (.int .i64 t.gap):=cellB HX.out
 go_wp2_with fail
 refine (KE.out _ HT.out.1 HT.out.2).mono ?_
 rintro e w2 ⟨v2,rfl,hR2,hb2⟩
 obtain ⟨a2,c2,rfl⟩:=hR2.form
 rw [hlen] at hR2 ⊢
 have HR2:=Hd hR2
 have HB2:=Hd hb2
 have hz2:w.heap.size+1≤w2.heap.size:=by have:=hb2.size;omega
 clear hR2 hb2 b0 b1 b2 b3 b4 KE
 go_wp2_with fail
 go_loopw [10] (fun s W=>∃ k:Nat,s=.int .i64 k∧k≤C∧Hid (RowI W W1.heap.size w2.heap.size (.slice a2 C c2) (fixTo t.cols L k))∧Hid (Below W1.heap.size W1 W)∧w2.heap.size≤W.heap.size) (fun s _=>C - (intOf s).toNat)
 case atStart=>exact ⟨0,rfl,Nat.zero_le _,HR2,HB2,Nat.le_refl _⟩
 case round =>
  clear HR2 HB2
  obtain ⟨k,rfl,hk,HR,HB,hsz⟩:=hrel
  by_cases hlt:k < C
  case neg =>
   obtain rfl:k=C:=by omega
   have HF:=Hd (HR.out.base (B':=w.heap.size) (D':=wr.heap.size) (by omega) hsz)
   have HK:=Hd (HK0.out.trans (HB.out.mono (by omega)))
   go_wp2
   go_ret
   exact ⟨_,rfl,by rw [← HL.out];exact HF.out,HK.out⟩
  have X0:=(HB.out.block w.heap.size (by omega)).trans HX.out
  have b0:wr.cell? ⟨w.heap.size,0,none⟩=some (.slice ac t.cols.length cc):=cellB X0
  have hwz:w.heap.size < wr.heap.size:=by omega
  have KS:=Hd (implsaidOf _ t.cols (k:Int) wr (HT.out.1.kept HB.out))
  obtain ⟨g,cap',e',hBg,hgD,hgw,hc1,hc2,hx,hf⟩:=HR.out.get (i:=k) (by rw [fixTo_len];omega)
  rw [fixTo_len,hlen] at e' hc1
  simp only [Value.slice.injEq,true_and] at e'
  obtain ⟨rfl,rfl⟩:=e'
  unfold maxLen at hc2
  have hxb:=HUp.out k (by omega)
  rw [fixTo_out t.cols L k (Nat.le_refl _)] at hx
  have hsd:=HSd.out k hlt
  have HYes:Hid ((sd t.cols k).1=1→fixTo t.cols L (k+1)=(fixTo t.cols L k).set k (max (L.getD k 0) (sd t.cols k).2)):=fun h=>by rw [fixTo,if_pos h,fixTo_out t.cols L k (Nat.le_refl _)]
  have HNo:Hid ((sd t.cols k).1 ≠ 1→fixTo t.cols L (k+1)=fixTo t.cols L k):=fun h=>by rw [fixTo,if_neg h]
  generalize sd t.cols k=p at KS hsd HYes HNo
  clear X0
  by_cases hp:p.1=1
  case neg =>
   have hpb:(p.1 == 1)=false:=by simpa using hp
   have HF:=Hd (HNo.out hp)
   clear HNo HYes hsd hp
   go_wp2_with fail
   refine KS.out.mono ?_
   rintro e w3 ⟨rfl,hb3⟩
   have HK3:=Hd hb3
   clear hb3
   go_wp2
   go_roundw
   case rel=>exact ⟨k+1,by go_num,by omega,by rw [HF.out];exact HR.out.kept (fun j h0 _ _=>(Below.heap_alloc _ _ _ (Nat.lt_of_lt_of_le h0 HK3.out.size)).trans (HK3.out.block j h0)),k_alloc (HB.out.trans (HK3.out.mono HB.out.size)) _,by have:=HK3.out.size;simp;omega⟩
   case measure=>simp [intOf];omega
  have HF:=Hd (HYes.out hp)
  have hq:=hsd hp
  clear HNo HYes hsd
  obtain ⟨p1,p2⟩:=p
  obtain rfl:p1=1:=hp
  have hq:0≤p2∧p2≤60:=hq
  dsimp only at KS HF
  go_wp2_with fail
  refine KS.out.mono ?_
  rintro e w3 ⟨rfl,hb3⟩
  have HX3:=Hd (newestB w3 (.cells #[.int .i64 1,.int .i64 p2] 130))
  have HB3:=Hd (k_alloc (HB.out.trans (hb3.mono HB.out.size)) (.cells #[.int .i64 1,.int .i64 p2] 130))
  have HR3:=Hd (HR.out.kept (fun j h0 _ _=>(Below.heap_alloc w3 (.cells #[.int .i64 1,.int .i64 p2] 130) j (Nat.lt_of_lt_of_le h0 hb3.size)).trans (hb3.block j h0)))
  have hsz3:w2.heap.size≤(w3.alloc (.cells #[.int .i64 1,.int .i64 p2] 130)).heap.size:=by have:=hb3.size;simp;omega
  clear hb3 HR HB hx hf b0
  go_upto_region 7 with fail
  generalize w3.alloc (.cells #[.int .i64 1,.int .i64 p2] 130)=W3 at HX3 HB3 HR3 hsz3 ⊢
  generalize w3.heap.size=cb at HX3 ⊢
  obtain ⟨g3,cap3,e3,hBg3,hgD3,hgw3,hc13,hc23,hx3,hf3⟩:=HR3.out.get (i:=k) (by rw [fixTo_len];omega)
  rw [fixTo_len,hlen] at e3
  simp only [Value.slice.injEq,Option.some.injEq,Addr.mk.injEq,and_true] at e3
  obtain ⟨rfl,_,rfl⟩:=e3
  rw [fixTo_out t.cols L k (Nat.le_refl _)] at hx3
  have hcb:cb < W3.heap.size:=(bL HX3.out)
  have hne:=bw_some W3
  have q1:=bw_cell (a:=⟨cb,1,none⟩) hcb (cellB (p:=1) HX3.out)
  have q2:=bw_cell (a:=⟨g,k,none⟩) hgw3 hx3
  have HN:=Hd (fun W (h:Below W3.heap.size W3 W)=>(HR3.out.kept (fun j h0 _ _=>h.block j h0)).set (i:=k) (by rw [fixTo_len];omega) (max (L.getD k 0) p2))
  rw [← HF.out] at HN
  generalize L.getD k 0=y at hxb hx3 q2 HN
  clear hx3 hf3 hc13 hc23 HF
  refine wp_region_last 10 hmx (by rfl) (by rfl) (by kernel_rfl) (by kernel_rfl) ?_
  simp only [List.take_succ_cons,List.take_zero]
  repeat (go_big_quiet_step (fail))
  refine wpQuiet_nil ?_
  intro W5 hw'
  obtain ⟨⟨Wx,hW5⟩,hw''⟩:=hw'
  subst hw''
  have HN5:=Hd (HN.out _ hW5)
  have HB5:=Hd (k_set (HB3.out.trans (hW5.mono HB3.out.size)) (p:=⟨g,k,none⟩) hBg (.int .i64 (max y p2)))
  have hf5:=(HR3.out.kept (fun j h0 _ _=>hW5.block j h0)).get (i:=k) (by rw [fixTo_len];omega)
  obtain ⟨g5,cap5,e5,_,_,hgw5,_,_,hx5,hf5⟩:=hf5
  simp only [Value.slice.injEq,Option.some.injEq,Addr.mk.injEq,and_true] at e5
  have eg:=e5.1
  clear e5
  subst eg
  have hsz5:w2.heap.size≤(W5.setCell ⟨g,k,none⟩ (.int .i64 (max y p2))).heap.size:=by rw [sizeSet];have:=hW5.size;omega
  clear q1 q2 HN HB3 HR3 hW5 hne
  rw [if_pos (by rfl)]
  go_simp
  go_wp2
  go_roundw
  case rel=>exact ⟨k+1,by go_num,by omega,HN5,HB5,hsz5⟩
  case measure=>simp [intOf];omega
set_option maxRecDepth 100000 in
set_option maxHeartbeats 1000000 in
theorem wideEnough_TxtWish (nd:ByteArray→Int) (hnd:∀ s,0≤nd s∧nd s≤30) (KN:∀ (s:ByteArray) (W:World),s.size≤maxLen→Calls Tryz.prog 155 #[.string s] W fun e w'=>e=.returned (.int .i64 (nd s))∧Below W.heap.size W w')
  (ac ar:Option Addr) (cc cr:Nat) (t:T) (hD:Drawn t) (w:World) {z:Nat} (hc:ColsAt w z (.slice ac t.cols.length cc) t.cols) (hr:RowsAt w z (.slice ar t.rows.length cr) t.rows) (C:Nat) (hgc:(gOf t).cols=C) :
  Calls Tryz.prog 96 #[.agg #[.slice ac t.cols.length cc,.int .i64 t.head,.int .i64 t.foot,.slice ar t.rows.length cr,.int .i64 t.gap],.func (.func 155) #[] #[]] w fun e w'=>∃ v,e=.returned v∧RowI w' w.heap.size w'.heap.size v (needTo (fun x=>nd (textOf t x)) t.gap (gOf t).cells (zeroL C) 4)∧Below w.heap.size w w':=by
 obtain ⟨h40,C',hgc',hC88,hcel⟩:=cel_of hD
 obtain rfl:C'=C:=by rw [hgc'] at hgc;omega
 have K0:=k_alloc (Below.refl w.heap.size w) (.cells #[.slice ac t.cols.length cc,.int .i64 t.head,.int .i64 t.foot,.slice ar t.rows.length cr,.int .i64 t.gap] 26)
 have HN:=Hd KN
 have HCel:=Hd hcel
 have HDr:=Hd hD
 have HGC:=Hd hgc'
 have hup:=need_up (p:=fun x=>nd (textOf t x)) (l:=zeroL C') hcel h40 (by simp [zeroL]) (fun x=>(hnd _).2) (zero_up _)
 have HUp:=Hd hup
 have hps:=fun s hs=>pass_up (p:=fun x=>nd (textOf t x)) (s:=((s+1:Nat):Int)) (l:=needTo (fun x=>nd (textOf t x)) t.gap (gOf t).cells (zeroL C') s) hcel (by rw [needTo_len];simp [zeroL]) (fun x=>(hnd _).2) (hup s hs)
 have HPs:=Hd hps
 have HT:=Hd (And.intro (hc.kept K0) (hr.kept K0))
 have HX:=Hd (newestB w (.cells #[.slice ac t.cols.length cc,.int .i64 t.head,.int .i64 t.foot,.slice ar t.rows.length cr,.int .i64 t.gap] 26))
 have HK:=Hd K0
 have hmk:=makeI C' (by omega)
 have hmx:Tryz.prog.follows .mixedOrders=true:=by kernel_rfl
 clear hcel hD hup hps hc hr K0 KN hgc' hgc
 go_enter Tryz.func96,Tryz.ntmps96
 go_wp2_with fail
 refine (implGrdOf ac ar cc cr t HDr.out _ HT.out.1 HT.out.2).mono ?_
 rintro e w2 ⟨vg,rfl,hO2,hb2⟩
 obtain ⟨ag,cg,rfl⟩:=own_slice hO2
 have hG2:=hO2.at (gOf_gok HDr.out)
 have HW:Hid (Ws w z w2.heap.size ac ar cc cr t ag cg (w2.alloc (.cells #[.int .i64 (gOf t).rows,.int .i64 (gOf t).cols,.slice ag (gOf t).cells.length cg] 34))) :=
  ⟨k_alloc (k_trans HK.out hb2) _,⟨(HT.out.1.kept hb2).kept (k_alloc (Below.refl _ _) _),(HT.out.2.kept hb2).kept (k_alloc (Below.refl _ _) _)⟩,(Below.heap_alloc _ _ _ (Nat.lt_of_lt_of_le (by simp) hb2.size)).trans ((hb2.block w.heap.size (by simp)).trans HX.out),(hG2.base (by simp)).kept (k_alloc (Below.refl _ _) _),newestB _ _⟩
 have hz2:w.heap.size < w2.heap.size:=Nat.lt_of_lt_of_le (by simp) hb2.size
 clear hO2 hb2 hG2 HT HX HK
 go_upto_region 2 with fail
 generalize hW3:w2.alloc (.cells #[.int .i64 (gOf t).rows,.int .i64 (gOf t).cols,.slice ag (gOf t).cells.length cg] 34)=W3 at HW ⊢
 have hz3:W3.heap.size=w2.heap.size+1:=by rw [← hW3];simp
 clear hW3
 obtain ⟨y0,y1,y2,y3⟩:=HW.out.at
 rw [HGC.out] at y2
 go_wp2_with fail
 clear hmk y0 y1 y2 y3
 have S0:Hid (RowI (W3.alloc (.cells (newI C') 3)) (w2.heap.size+1) (w2.heap.size+2) (.slice (some ⟨w2.heap.size+1,0,none⟩) C' C') (zeroL C')):=by have h:=row_new W3 C' (by omega);rw [hz3] at h;exact h
 go_loopw [7] (fun s W=>∃ m:Nat,s=.int .i64 ((m:Int)+1)∧m≤4∧Hid (RowI W (w2.heap.size+1) (w2.heap.size+2) (.slice (some ⟨w2.heap.size+1,0,none⟩) C' C') (needTo (fun x=>nd (textOf t x)) t.gap (gOf t).cells (zeroL C') m))∧Hid (Below W3.heap.size W3 W)∧W3.heap.size < W.heap.size) (fun s _=>5 - (intOf s).toNat)
 case atStart=>exact ⟨0,rfl,by omega,S0,k_alloc (Below.refl _ _) _,by simp⟩
 case round =>
  clear S0
  obtain ⟨m,rfl,hm,HR,HB,hsz⟩:=hrel
  by_cases hlt:m < 4
  case neg =>
   obtain rfl:m=4:=by omega
   have hK:=Hd (HW.out.1.trans (HB.out.mono (by omega)))
   have HF:=Hd (HR.out.base (B':=w.heap.size) (D':=wr.heap.size) (by omega) (by omega))
   go_wp2
   go_ret
   exact ⟨_,rfl,HF.out,hK.out⟩
  have HWr:=Hd (HW.out.kept HB.out)
  obtain ⟨y0,y1,y2,y3⟩:=HWr.out.at
  rw [HGC.out] at y2
  go_wp2_with fail
  clear y0 y1 y2 y3 HWr
  have HUm:=Hd (HPs.out m (by omega) (by omega))
  rw [show decide ((m:Int)+1≤4)=true by simp;omega]
  go_loopw [22] (fun s W=>∃ k:Nat,s=.int .i64 k∧k≤(gOf t).cells.length∧Hid (RowI W (w2.heap.size+1) (w2.heap.size+2) (.slice (some ⟨w2.heap.size+1,0,none⟩) C' C') (passTo (fun x=>nd (textOf t x)) t.gap ((m+1:Nat):Int) (gOf t).cells (needTo (fun x=>nd (textOf t x)) t.gap (gOf t).cells (zeroL C') m) k))∧Hid (Below W3.heap.size W3 W)∧W3.heap.size < W.heap.size) (fun s _=>(gOf t).cells.length - (intOf s).toNat)
  case atStart=>exact ⟨0,rfl,Nat.zero_le _,HR,HB,hsz⟩
  case round =>
   clear HR HB hsz
   obtain ⟨k,rfl,hk,HR,HB,hsz⟩:=hrel
   by_cases hkl:k < (gOf t).cells.length
   case neg =>
    obtain rfl:k=(gOf t).cells.length:=by omega
    go_wp2
    go_roundw
    case rel=>exact ⟨m+1,by go_num,by omega,HR,HB,hsz⟩
    case measure=>simp [intOf];omega
   have HWr:=Hd (HW.out.kept HB.out)
   obtain ⟨b,off,cap',e',hc1,hc2,hbl,hx,_⟩:=At.get HWr.out.2.2.2.1 hkl
   simp only [Value.slice.injEq,true_and] at e'
   obtain ⟨rfl,rfl⟩:=e'
   unfold maxLen at hc2
   have HCe:=Hd (HCel.out k hkl)
   obtain ⟨⟨rn,jn,cn,mn,e1,e2,e3,e4,h1,h2,h3,h4,h5⟩,hgp,hrs⟩:=HCel.out k hkl
   have HSz:Hid ((textOf t ((gOf t).cells.getD k dG)).size≤maxLen):=text_size HCe.out HWr.out.2.1.2
   have hub:=HUm.out k hk
   have HNo:Hid ((mn:Int) ≠ ((m+1:Nat):Int)→passTo (fun x=>nd (textOf t x)) t.gap ((m+1:Nat):Int) (gOf t).cells (needTo (fun x=>nd (textOf t x)) t.gap (gOf t).cells (zeroL C') m) (k+1)=passTo (fun x=>nd (textOf t x)) t.gap ((m+1:Nat):Int) (gOf t).cells (needTo (fun x=>nd (textOf t x)) t.gap (gOf t).cells (zeroL C') m) k):=fun h=>by rw [passTo,if_neg (by rw [e4];exact h)]
   have HYes:Hid ((mn:Int)=((m+1:Nat):Int)→passTo (fun x=>nd (textOf t x)) t.gap ((m+1:Nat):Int) (gOf t).cells (needTo (fun x=>nd (textOf t x)) t.gap (gOf t).cells (zeroL C') m) (k+1)=wideL (passTo (fun x=>nd (textOf t x)) t.gap ((m+1:Nat):Int) (gOf t).cells (needTo (fun x=>nd (textOf t x)) t.gap (gOf t).cells (zeroL C') m) k) cn mn t.gap (nd (textOf t ((gOf t).cells.getD k dG)))):=fun h=>by rw [passTo,if_pos (by rw [e4];exact h),e3,e4,Int.toNat_natCast,Int.toNat_natCast]
   have hpl:=passTo_len (fun x=>nd (textOf t x)) t.gap ((m+1:Nat):Int) (gOf t).cells (needTo (fun x=>nd (textOf t x)) t.gap (gOf t).cells (zeroL C') m) k
   rw [needTo_len,show (zeroL C').length=C' by simp [zeroL]] at hpl
   generalize (gOf t).cells.getD k dG=x at hx e1 e2 e3 e4 HYes hrs HCe HSz
   generalize hL:passTo (fun x=>nd (textOf t x)) t.gap ((m+1:Nat):Int) (gOf t).cells (needTo (fun x=>nd (textOf t x)) t.gap (gOf t).cells (zeroL C') m) k=L at HR HNo HYes hub hpl
   clear hL
   have HKT:=Hd (fun (W:World) (hR:RowsAt W z (.slice ar t.rows.length cr) t.rows)=>impltextOf ac ar cc cr t x HCe.out W hR)
   simp only [e1,e2,e3,e4] at HKT
   obtain ⟨x0,x1,x2,x3,x4⟩:=hx
   rw [e1] at x0
   rw [e2] at x4
   rw [e3] at x1
   rw [e4] at x3
   by_cases hms:(mn:Int)=(m:Int)+1
   case neg =>
    have hmb:((mn:Int) == (m:Int)+1)=false:=by simpa using hms
    have HL:=Hd (HNo.out (by omega))
    clear HNo HYes e1 e2 e3 e4 hms
    go_wp2
    go_roundw
    case rel=>exact ⟨k+1,by go_num,by omega,by rw [HL.out];exact HR.out.kept (fun j h0 _ _=>Below.heap_alloc _ _ _ h0),k_alloc HB.out _,by simp;omega⟩
    case measure=>simp [intOf];omega
   obtain rfl:mn=m+1:=by omega
   have HL:=Hd (HYes.out rfl)
   have hmb:((m:Int)+1 == (m:Int)+1)=true:=by simp
   have hcast:((m+1:Nat):Int)=(m:Int)+1:=by omega
   rw [hcast] at x3
   simp only [hcast] at HKT
   clear hcast
   clear HNo HYes e1 e2 e3 e4 hms
   go_upto_region 10 with fail
   have HW4:Hid (Ws w z w2.heap.size ac ar cc cr t (some ⟨b,off,none⟩) cg (wr.alloc (.cells #[.int .i64 (rn:Int),.int .i64 (cn:Int),.int .i64 x.rows,.int .i64 ((m:Int)+1),.int .i64 (jn:Int)] 78))):=HWr.out.kept (k_alloc (Below.refl _ _) _)
   have HB4:=Hd (k_alloc HB.out (.cells #[.int .i64 (rn:Int),.int .i64 (cn:Int),.int .i64 x.rows,.int .i64 ((m:Int)+1),.int .i64 (jn:Int)] 78))
   have HR4:=Hd (HR.out.kept (fun j h0 _ _=>Below.heap_alloc wr (.cells #[.int .i64 (rn:Int),.int .i64 (cn:Int),.int .i64 x.rows,.int .i64 ((m:Int)+1),.int .i64 (jn:Int)] 78) j h0))
   have HX4:=Hd (newestB wr (.cells #[.int .i64 (rn:Int),.int .i64 (cn:Int),.int .i64 x.rows,.int .i64 ((m:Int)+1),.int .i64 (jn:Int)] 78))
   have hsz4:W3.heap.size < (wr.alloc (.cells #[.int .i64 (rn:Int),.int .i64 (cn:Int),.int .i64 x.rows,.int .i64 ((m:Int)+1),.int .i64 (jn:Int)] 78)).heap.size:=by simp;omega
   generalize wr.alloc (.cells #[.int .i64 (rn:Int),.int .i64 (cn:Int),.int .i64 x.rows,.int .i64 ((m:Int)+1),.int .i64 (jn:Int)] 78)=W4 at HW4 HB4 HR4 HX4 hsz4 ⊢
   generalize wr.heap.size=cb at HX4 ⊢
   clear HWr HR HB hsz x0 x1 x2 x3 x4 hbl
   have q1:W4.cell? ⟨cb,1,none⟩=some (.int .i64 (cn:Int)):=cellB HX4.out
   have hcb:cb < W4.heap.size:=(bL HX4.out)
   have htb:w.heap.size < W4.heap.size:=(bL HW4.out.2.2.1)
   obtain ⟨y0,y1,y2,y3⟩:=HW4.out.at
   obtain ⟨t3,t4,t5,t6,t10,t11,t12,t13⟩:=slice_facts h3 hC88
   have hne:=bw_some W4
   have g0:=bw_cell (a:=⟨cb,0,none⟩) hcb (cellB (p:=0) HX4.out)
   have g1:=bw_cell (a:=⟨cb,1,none⟩) hcb (cellB (p:=1) HX4.out)
   have g2:=bw_cell (a:=⟨cb,2,none⟩) hcb (cellB (p:=2) HX4.out)
   have g3:=bw_cell (a:=⟨cb,3,none⟩) hcb (cellB (p:=3) HX4.out)
   have g4:=bw_cell (a:=⟨cb,4,none⟩) hcb (cellB (p:=4) HX4.out)
   have b0:=bw_cell (a:=⟨w.heap.size,0,none⟩) htb (cellB (p:=0) HW4.out.2.2.1)
   have b1:=bw_cell (a:=⟨w.heap.size,1,none⟩) htb (cellB (p:=1) HW4.out.2.2.1)
   have b2:=bw_cell (a:=⟨w.heap.size,2,none⟩) htb (cellB (p:=2) HW4.out.2.2.1)
   have b3:=bw_cell (a:=⟨w.heap.size,3,none⟩) htb (cellB (p:=3) HW4.out.2.2.1)
   have b4:=bw_cell (a:=⟨w.heap.size,4,none⟩) htb (cellB (p:=4) HW4.out.2.2.1)
   have KT:=Hd (fun (p:BW W4)=>bw_of ((HKT.out p.u (HW4.out.kept p.h).2.1.2).mono (fun _ _ ⟨h1,_,h2⟩=>And.intro h1 h2)))
   have KND:=Hd (fun (p:BW W4)=>bw_of (HN.out (textOf t x) p.u HSz.out))
   have KW:=Hd (fun W=>widen_any (w2.heap.size+1) (w2.heap.size+2) (w2.heap.size+1) C' C' L (fun i hi=>by have:=hub i hi;omega) cn (m+1) (by rw [hpl];exact h3) ⟨h4,h5⟩ t.gap (nd (textOf t x)) hgp (hnd (textOf t x)) W)
   clear y0 y1 y2 y3 q1
   refine wp_region_last 15 hmx (by rfl) (by rfl) (by kernel_rfl) (by kernel_rfl) ?_
   simp only [List.take_succ_cons,List.take_zero]
   repeat (go_big_quiet_step (first | (go_at_call 105;refine KT.out _) | (go_at_call 155;refine KND.out _)))
   refine wpQuiet_nil ?_
   intro W5 hw'
   obtain ⟨⟨Wx,hW5⟩,hw''⟩:=hw'
   subst hw''
   have HB5:=Hd (HB4.out.trans (hW5.mono (Nat.le_of_lt hsz4)))
   have HR5:=Hd (HR4.out.kept (fun j h0 _ _=>hW5.block j h0))
   have hsz5:W3.heap.size < W5.heap.size:=Nat.lt_of_lt_of_le hsz4 hW5.size
   clear g0 g1 g2 g3 g4 b0 b1 b2 b3 b4 KT KND HKT HW4 HB4 HR4 HX4 hsz4 hW5 hne
   rw [if_pos (by rfl)]
   go_simp
   go_wp2_with (go_at_call 153;refine (KW.out W5 HR5.out (by omega)).mono ?_;rintro e w7 ⟨rfl,hr7,hk7⟩;have HR7:=Hd hr7;have HB7:=Hd (HB5.out.trans (hk7.below (Nat.le_of_lt hsz5) (by omega)));have hsz7:W3.heap.size < w7.heap.size:=Nat.lt_of_lt_of_le hsz5 hk7.size;clear hr7 hk7)
   go_roundw
   case rel=>exact ⟨k+1,by go_num,by omega,by rw [HL.out];exact HR7.out,HB7,hsz7⟩
   case measure=>simp [intOf];omega
theorem wishN (s:ByteArray) (W:World) (h:s.size≤maxLen):Calls Tryz.prog 155 #[.string s] W fun e w'=>e=.returned (.int .i64 ((wishOf s:Nat):Int))∧Below W.heap.size W w':=(implTxtWish s h W).mono (fun _ _ ⟨h1,h2⟩=>⟨h1,h2 ▸ Below.refl _ _⟩)
set_option maxRecDepth 100000 in
set_option maxHeartbeats 1000000 in
theorem implColWish (ac ar:Option Addr) (cc cr:Nat) (t:T) (hD:Drawn t) (w:World) {z:Nat} (hc:ColsAt w z (.slice ac t.cols.length cc) t.cols) (hr:RowsAt w z (.slice ar t.rows.length cr) t.rows) :
  Calls Tryz.prog 102 #[.agg #[.slice ac t.cols.length cc,.int .i64 t.head,.int .i64 t.foot,.slice ar t.rows.length cr,.int .i64 t.gap]] w fun e w'=>∃ v,e=.returned v∧RowI w' w.heap.size w'.heap.size v (wishL t)∧Below w.heap.size w w':=by
 obtain ⟨_,C,hgc,hC,_⟩:=cel_of hD
 have HCN:=Hd (colN_of hgc)
 have HL:Hid (maxTo (needL t (wishP t)) (leastL t) C=wishL t):=by rw [Hid,wishL,HCN.out]
 have hNL:needTo (fun x=>((wishOf (textOf t x):Nat):Int)) t.gap (gOf t).cells (zeroL C) 4=needL t (wishP t):=by unfold needL;rw [HCN.out];rfl
 have hlen:=needL_len t (wishP t)
 have hlen2:=leastL_len t
 rw [HCN.out] at hlen hlen2
 have HUp:=Hd (needL_up hD (fun x=>(wishP_le t x).2))
 have HUp2:=Hd (leastL_up hD)
 have HK0:=Hd (k_alloc (Below.refl w.heap.size w) (.cells #[.slice ac t.cols.length cc,.int .i64 t.head,.int .i64 t.foot,.slice ar t.rows.length cr,.int .i64 t.gap] 26))
 have HX:=Hd (newestB w (.cells #[.slice ac t.cols.length cc,.int .i64 t.head,.int .i64 t.foot,.slice ar t.rows.length cr,.int .i64 t.gap] 26))
 have HT:=Hd (And.intro (hc.kept HK0.out) (hr.kept HK0.out))
 have hs1:(w.alloc (.cells #[.slice ac t.cols.length cc,.int .i64 t.head,.int .i64 t.foot,.slice ar t.rows.length cr,.int .i64 t.gap] 26)).heap.size=w.heap.size+1:=by simp
 have KE:=Hd (fun W h1 h2=>wideEnough_TxtWish (fun s=>((wishOf s:Nat):Int)) (fun s=>by have:=wishOf_le s;omega) wishN ac ar cc cr t hD W (z:=z) h1 h2 C hgc)
 have KL:=Hd (fun W h1 h2=>implColLeast ac ar cc cr t hD W (z:=z) h1 h2)
 rw [hNL] at KE
 generalize needL t (wishP t)=L at KE HL hlen HUp
 generalize leastL t=M at KL HL hlen2 HUp2
 clear hNL hc hr hD hgc
 go_enter Tryz.func102,Tryz.ntmps102
 go_upto_region 1 with fail
 generalize w.alloc (.cells #[.slice ac t.cols.length cc,.int .i64 t.head,.int .i64 t.foot,.slice ar t.rows.length cr,.int .i64 t.gap] 26)=W1 at HK0 HX HT hs1 ⊢
 obtain ⟨b0,b1,b2,b3,b4⟩:=fiveO HX.out
 go_wp2_with fail
 refine (KE.out _ HT.out.1 HT.out.2).mono ?_
 rintro e w2 ⟨v2,rfl,hR2,hb2⟩
 obtain ⟨a2,c2,rfl⟩:=hR2.form
 rw [hlen] at hR2 ⊢
 have HR2:=Hd hR2
 have HB2:=Hd hb2
 have HX2:=Hd ((hb2.block w.heap.size (by omega)).trans HX.out)
 have hz2:w.heap.size+1≤w2.heap.size:=by have:=hb2.size;omega
 clear hR2 hb2 b0 b1 b2 b3 b4 KE
 obtain ⟨b0,b1,b2,b3,b4⟩:=fiveO HX2.out
 have ht2:w.heap.size < w2.heap.size:=by omega
 go_wp2_with fail
 refine (KL.out _ (HT.out.1.kept HB2.out) (HT.out.2.kept HB2.out)).mono ?_
 rintro e w3 ⟨v3,rfl,hR3,hb3⟩
 obtain ⟨a3,c3,rfl⟩:=hR3.form
 rw [hlen2] at hR3 ⊢
 have HR3:=Hd (HR2.out.kept (fun j h0 _ _=>hb3.block j h0))
 have HM3:=Hd hR3
 have HB3:=Hd (k_trans HB2.out hb3)
 have hz3:w2.heap.size≤w3.heap.size:=hb3.size
 clear hR3 hb3 HR2 HB2 HX2 b0 b1 b2 b3 b4 ht2 KL
 go_wp2_with fail
 go_loopw [11] (fun s W=>∃ k:Nat,s=.int .i64 k∧k≤C∧Hid (RowI W W1.heap.size w2.heap.size (.slice a2 C c2) (maxTo L M k))∧Hid (RowI W w2.heap.size w3.heap.size (.slice a3 C c3) M)∧Hid (Below W1.heap.size W1 W)∧w3.heap.size≤W.heap.size) (fun s _=>C - (intOf s).toNat)
 case atStart=>exact ⟨0,rfl,Nat.zero_le _,HR3,HM3,HB3,Nat.le_refl _⟩
 case round =>
  clear HR3 HM3 HB3
  obtain ⟨k,rfl,hk,HR,HM,HB,hsz⟩:=hrel
  by_cases hlt:k < C
  case neg =>
   obtain rfl:k=C:=by omega
   have HF:=Hd (HR.out.base (B':=w.heap.size) (D':=wr.heap.size) (by omega) (by omega))
   have HK:=Hd (HK0.out.trans (HB.out.mono (by omega)))
   go_wp2
   go_ret
   exact ⟨_,rfl,by rw [← HL.out];exact HF.out,HK.out⟩
  obtain ⟨g,cap',e',hBg,hgD,hgw,hc1,hc2,hx,hf⟩:=HR.out.get (i:=k) (by rw [maxTo_len];omega)
  rw [maxTo_len,hlen] at e' hc1
  simp only [Value.slice.injEq,true_and] at e'
  obtain ⟨rfl,rfl⟩:=e'
  obtain ⟨g3,cap3,e3,hBg3,hgD3,hgw3,hc13,hc23,hy,_⟩:=HM.out.get (i:=k) (by omega)
  rw [hlen2] at e3 hc13
  simp only [Value.slice.injEq,true_and] at e3
  obtain ⟨rfl,rfl⟩:=e3
  unfold maxLen at hc2 hc23
  rw [maxTo_out L M k (Nat.le_refl _)] at hx
  have hxb:=HUp.out k (by omega)
  have hyb:=HUp2.out k (by omega)
  have HN:=Hd (HR.out.set (i:=k) (by rw [maxTo_len];omega) (max (L.getD k 0) (M.getD k 0)))
  have HE:Hid (maxTo L M (k+1)=(maxTo L M k).set k (max (L.getD k 0) (M.getD k 0))):=rfl
  rw [← HE.out] at HN
  have HM2:=Hd (HM.out.kept (w':=wr.setCell ⟨g,k,none⟩ (.int .i64 (max (L.getD k 0) (M.getD k 0)))) (fun i _ h1 _=>Below.heap_setCell _ _ _ _ (fun e=>by have e':i=g:=e;omega)))
  have HB2:=Hd (k_set HB.out (p:=⟨g,k,none⟩) hBg (.int .i64 (max (L.getD k 0) (M.getD k 0))))
  have hsz2:w3.heap.size≤(wr.setCell ⟨g,k,none⟩ (.int .i64 (max (L.getD k 0) (M.getD k 0)))).heap.size:=by rw [sizeSet];exact hsz
  generalize L.getD k 0=x at hx hxb HN HM2 HB2 hsz2
  generalize M.getD k 0=y at hy hyb HN HM2 HB2 hsz2
  clear HE
  go_wp2
  go_roundw
  case rel=>exact ⟨k+1,by go_num,by omega,HN,HM2,HB2,hsz2⟩
  case measure=>simp [intOf];omega
theorem want2_no {t:T} {L:List Int} {i:Nat} (hi:i < (want2 t L).length) (hP:kindP t 0 i=false):(want2 t L).getD i 0=0:=by
 rw [want2_get (by rw [want2_len] at hi;exact hi),if_neg (by rw [hP];simp)]
set_option maxRecDepth 100000 in
set_option maxHeartbeats 1000000 in
theorem impltoWishes (w0:World) (sb:Nat) (ac ar:Option Addr) (cc cr:Nat) (t:T) (width:Int) (g cap C D:Nat) (left:Int) (L:List Int) (hDr:Drawn t) {z:Nat} (hc:ColsAt w0 z (.slice ac t.cols.length cc) t.cols) (hr:RowsAt w0 z (.slice ar t.rows.length cr) t.rows) (hge:∀ j,j < C→kindP t 0 j=true→L.getD j 0≤(wishL t).getD j 0) (hC:C≤88) (hCt:C=colN t) (hLC:L.length=C) (hLs:L.all wtB=true) (hg0:w0.heap.size≤g) (hgD:g < D) (hDs:D≤sb) (hok:shrOkB left (want2 t L)=true) (w:World) (h:SpS w0 sb ac ar cc cr t width g cap C D left L w) :
  Calls Tryz.prog 47 #[.pointer (some ⟨sb,0,none⟩)] w fun e w'=>e=.returned (.tuple #[])∧SpS w0 sb ac ar cc cr t width g cap C D (upToN left (want2 t L)) (addL L (upToL left (want2 t L))) w'∧Bk2 g sb w w':=by
 have hmx:Tryz.prog.follows .mixedOrders=true:=by kernel_rfl
 obtain ⟨ok1,len1,all1,sum1,give1⟩:=step_lists (P:=kindP t 0) (want2_len t L) hok (fun i hi hP=>want2_no hi hP)
 rw [hLC] at ok1 len1 all1 sum1 give1
 have HTl:=Hd (selL_len (want2 t L) (kindP t 0) C)
 have HTg:=Hd (fun k (hk:k < (selN (kindP t 0) C).length)=>selL_get (l:=want2 t L) hk)
 have HW:=Hd (fun j (hj:j < C) (hP:kindP t 0 j=true)=>(want2_get (t:=t) (l:=L) (k:=j) (by omega)).trans (if_pos hP))
 have HGe:=Hd hge
 have HWu:=Hd (wishL_up hDr)
 have HWl:Hid ((wishL t).length=C):=by rw [Hid,wishL_len,hCt]
 have KWi:=Hd (implColWish ac ar cc cr t hDr w (hc.kept h.bel) (hr.kept h.bel))
 have HLt:=Hd (fun k (hk:k < (selN (kindP t 0) C).length)=>selN_lt hk)
 have hnl:=selN_le (kindP t 0) C
 have HC:=Hd hc
 have H:=Hd h
 have KO:=Hd (fun W (h:SpS w0 sb ac ar cc cr t width g cap C D left L W)=>implofKind sb ac ar cc cr t width g cap C left 0 hC W h.sp (hc.kept h.bel))
 have hmk:=makeI (selN (kindP t 0) C).length (by omega)
 have HG1:=Hd give1
 have HSum:=Hd sum1
 have HA1:=Hd all1
 have HLn:=Hd len1
 have hleft:=(shrOk_parts hok).1
 have HOk:=Hd ok1
 generalize selN (kindP t 0) C=js at *
 generalize hT:selL (want2 t L) (kindP t 0) C=T at *
 clear h hc hr hge give1 sum1 all1 len1 ok1 hok hT
 have hTl:=HTl.out
 have s0:w.cell? ⟨sb,0,none⟩=some (.slice ac t.cols.length cc):=cellB (p:=0) H.out.sp
 have s1:w.cell? ⟨sb,1,none⟩=some (.int .i64 t.head):=cellB (p:=1) H.out.sp
 have s2:w.cell? ⟨sb,2,none⟩=some (.int .i64 t.foot):=cellB (p:=2) H.out.sp
 have s3:w.cell? ⟨sb,3,none⟩=some (.slice ar t.rows.length cr):=cellB (p:=3) H.out.sp
 have s4:w.cell? ⟨sb,4,none⟩=some (.int .i64 t.gap):=cellB (p:=4) H.out.sp
 go_enter Tryz.func47,Tryz.ntmps47
 go_wp2_with fail
 refine KWi.out.mono ?_
 rintro e wa ⟨va,rfl,hra,hba⟩
 obtain ⟨aw,cw,rfl⟩:=hra.form
 rw [HWl.out] at hra ⊢
 have HRa:=Hd hra
 have Ha:=Hd (H.out.kept hba)
 have HBa:=Hd hba
 have hza:=hba.size
 clear hra hba KWi s0 s1 s2 s3 s4
 go_wp2_with fail
 refine (KO.out _ Ha.out).mono ?_
 rintro e w1 ⟨v1,rfl,hr1,hb1⟩
 obtain ⟨a1,c1,rfl⟩:=hr1.form
 rw [natL_len] at hr1 ⊢
 have HRb:=Hd (HRa.out.kept (fun j h0 _ _=>hb1.block j h0))
 have HR1:=Hd hr1
 have HS1:=Hd (Ha.out.kept hb1)
 have HB1:=Hd (k_trans HBa.out hb1)
 have hz1:=hb1.size
 clear hr1 hb1 KO HRa Ha HBa
 have hn2:(w1.alloc (.cells (newI js.length) 3)).heap.size=w1.heap.size+1:=by simp
 have HN:=Hd (row_new w1 js.length (by omega))
 have hA2:=k_alloc (Below.refl w1.heap.size w1) (.cells (newI js.length) 3)
 go_upto_region 3 with fail
 have HRc:=Hd (HRb.out.kept (w':=w1.alloc (.cells (newI js.length) 3)) (fun j h0 _ _=>hA2.block j h0))
 have hwa:wa.heap.size≤w1.heap.size:=hz1
 have HS2:=Hd (HS1.out.kept hA2)
 have HR2:=Hd (HR1.out.kept (w':=w1.alloc (.cells (newI js.length) 3)) (fun j h0 _ _=>hA2.block j h0))
 have HB2:=Hd (k_trans HB1.out hA2)
 have hD2:D≤w1.heap.size:=by have:=HS1.out.sp.lt;omega
 have hsb1:sb < w1.heap.size:=HS1.out.sp.lt
 have hsbw:sb < w.heap.size:=H.out.sp.lt
 have hw0:w0.heap.size≤w1.heap.size:=HS1.out.bel.size
 clear HS1 HR1 HB1 hA2 H HRb
 generalize w1.alloc (.cells (newI js.length) 3)=W2 at HN HS2 HR2 HB2 HRc hn2 ⊢
 generalize w1.heap.size=gb at HN HR2 hn2 hD2 hsb1 hz1 hw0 hwa ⊢
 go_wp2_with fail
 go_loopw [21] (fun s W=>∃ k:Nat,s=.int .i64 k∧k≤js.length∧Hid (RowI W gb (gb+1) (.slice (some ⟨gb,0,none⟩) js.length js.length) (fillL T k))∧Hid (Bk gb W2 W)) (fun s _=>js.length - (intOf s).toNat)
 case atStart=>exact ⟨0,rfl,Nat.zero_le _,by rw [fillL_zero,hTl];exact HN,Bk.refl _ _⟩
 case round =>
  clear HN
  obtain ⟨k,rfl,hk,HF,HB⟩:=hrel
  have HS:=Hd (HS2.out.bk HB.out hw0 (by omega) hD2)
  have HR:=Hd (HR2.out.kept (fun j h0 _ h2=>HB.out.block j h0 (by omega)))
  by_cases hlt:k < js.length
  case pos =>
   obtain ⟨b1,c1',e1,hb1B,_,hb1w,hc11,hc12,hx1,_⟩:=HR.out.get (i:=k) (by rw [natL_len];exact hlt)
   rw [natL_len] at e1 hc11
   rw [natL_get hlt] at hx1
   simp only [Value.slice.injEq,true_and] at e1
   obtain ⟨rfl,rfl⟩:=e1
   obtain ⟨hjC,hjP⟩:=HLt.out k hlt
   have hTk:=HTg.out k hlt
   have hjj:js[k]=js.getD k 0:=by simp [List.getD,hlt]
   rw [hjj] at hTk
   rw [HW.out _ hjC hjP] at hTk
   have hgej:=HGe.out _ hjC hjP
   obtain ⟨b2,c2',e2,_,_,hb2w,hc21,hc22,hx2,_⟩:=(HRc.out.kept (fun j h0 _ h2=>HB.out.block j h0 (by omega))).get (i:=js.getD k 0) (by rw [HWl.out];exact hjC)
   rw [HWl.out] at e2 hc21
   simp only [Value.slice.injEq,true_and] at e2
   obtain ⟨rfl,rfl⟩:=e2
   have hws:=HWu.out (js.getD k 0) (by rw [HWl.out];exact hjC)
   obtain ⟨g',cap',e3,_,_,hgw,hc31,hc32,hx3,_⟩:=HS.out.row.get (i:=js.getD k 0) (by omega)
   rw [hLC] at e3 hc31
   simp only [Value.slice.injEq,Option.some.injEq,Addr.mk.injEq,and_true,true_and] at e3
   obtain ⟨rfl,rfl⟩:=e3
   have hxs:=getD_small hLs (js.getD k 0)
   generalize js.getD k 0=j at *
   generalize L.getD j 0=x at *
   generalize (wishL t).getD j 0=y at *
   rw [show max 0 (y - x)=y - x by omega] at hTk
   unfold maxLen at hc12 hc22 hc32
   have HFx:=Hd (fillL_succ (l:=T) (k:=k) (by omega))
   rw [hTk] at HFx
   have hne:=bw_some wr
   have m0:=bw_cell (a:=⟨sb,6,none⟩) HS.out.sp.lt (cellB (p:=6) HS.out.sp)
   have m1:=bw_cell (a:=⟨g,j,none⟩) hgw hx3
   have m2:=bw_cell (a:=⟨b2,j,none⟩) hb2w hx2
   clear hx2 hx3 hTk hjP
   go_upto_region 6 with fail
   clear hx1
   refine wp_region_last 15 hmx (by rfl) (by rfl) (by kernel_rfl) (by kernel_rfl) ?_
   simp only [List.take_succ_cons,List.take_zero]
   repeat (go_big_quiet_step (fail))
   refine wpQuiet_nil ?_
   intro W5 hw'
   obtain ⟨⟨Wx,hW5⟩,hw''⟩:=hw'
   subst hw''
   have HF5:=Hd (HF.out.kept (fun i h0 _ _=>hW5.block i h0))
   have HB5:=Hd (HB.out.trans (Bk.of_below hW5))
   obtain ⟨g5,cap5,e5,_,_,hgw5,_,_,hx5,hf5⟩:=HF5.out.get (i:=k) (by rw [fillL_len T (by omega)];omega)
   simp only [Value.slice.injEq,Option.some.injEq,Addr.mk.injEq,and_true] at e5
   have eg:=e5.1
   clear e5
   subst eg
   have HF6:=Hd (HF5.out.set (i:=k) (by rw [fillL_len T (by omega)];omega) (y - x))
   rw [← HFx.out] at HF6
   clear m0 m1 m2 hne hW5 HF HB HF5 HFx
   rw [if_pos (by rfl)]
   go_simp
   go_wp2
   go_roundw
   case rel=>exact ⟨k+1,by go_num,by omega,HF6,HB5.out.set (p:=⟨gb,k,none⟩) (.inl rfl) _⟩
   case measure=>simp [intOf];omega
  case neg =>
   obtain rfl:k=js.length:=by omega
   have s7:wr.cell? ⟨sb,7,none⟩=some (.int .i64 left):=cellB (p:=7) HS.out.sp
   have HF':Hid (RowI wr gb (gb+1) (.slice (some ⟨gb,0,none⟩) js.length js.length) T):=by rw [← fillL_all T,hTl];exact HF
   have KU:=Hd (shareUpTo_any left _ T HOk.out wr HF'.out.at)
   go_wp2_with fail
   refine KU.out.mono ?_
   rintro e w5 ⟨v5,rfl,hr5,hb5⟩
   obtain ⟨a5,c5,rfl⟩:=hr5.form
   have hz5:=hb5.size
   have hzr:=HB.out.size
   have KG:=Hd (implgive sb ac ar cc cr t width g cap C left L (upToL left T) js (.slice a1 js.length c1) (.slice a5 (upToL left T).length c5) w0.heap.size D w.heap.size hLC (fun k hk=>(HLt.out k hk).1) (by omega) HLn.out hLs HA1.out hleft hgD hDs hsbw w5 (HS.out.kept hb5).sp (HS.out.kept hb5).row ((HR.out.kept (fun j h0 _ _=>hb5.block j h0)).base (by omega) (by omega)) (hr5.base (by omega) (Nat.le_refl _)))
   have HB6:=Hd ((HB2.out.trans (HB.out.below (n:=w.heap.size) (by omega) (by omega))).trans (hb5.mono (by omega)))
   have HL6:=Hd ((HS.out.kept hb5).bel)
   clear KU s7
   go_wp2_with fail
   refine KG.out.mono ?_
   rintro e w6 ⟨rfl,hs6,hr6,hb6⟩
   have HF6:=Hd (SpS.mk (HL6.out.trans (hb6.below HL6.out.size hg0 (by omega))) hs6 hr6)
   rw [HSum.out,HG1.out] at HF6
   have HK6:=Hd ((Bk2.of_below HB6.out).trans hb6)
   clear hs6 hr6 hb6
   go_wp2
   go_end0
   exact ⟨rfl,HF6.out,HK6.out⟩
end Go.Proofs.YtojogjlblgcioanGreat
