/-
  PROVED HERE: the model's l5Need (by longest words) at a drawn table and its grid: the list 'needTo', in memory of its own; nothing that was in memory is turned. Also: 7 more texts of the same proof.
-/
import Derived.Test.YtggmjiddadjilaeGreatC33
import Derived.Test.YtggmjiddadjilaeGreatC28
import Derived.Test.YtggmjiddadjilaeGreatC24
import Derived.Test.YtggmjiddadjilaeGreatC35
import Derived.Test.YtggmjiddadjilaeGreatC29
import Derived.Test.YtggmjiddadjilaeGreatC20
import Derived.Test.YtggmjiddadjilaeGreatC17
import Derived.Test.YtggmjiddadjilaeGreatC10
import Derived.Deep.DeepCutAuto
import Derived.Deep.RegionWith
import Derived.Deep.QuietTactic
import Derived.BigQuiet
import Derived.WalkLawsBesides
import Derived.WalkSpells
import Derived.RegionTactic
namespace Go.Proofs.YtggmjiddadjilaeGreat
open Go.RowKit Go.BigFrame
def NdWtrue (W2:World) (D:Nat) (v:Value) (L:List Int) (cb:Nat) (bx:Obj) (W:World):Prop:=Below W2.heap.size W2 W∧RowI W W2.heap.size D v L∧W.heap[cb]?=some bx
theorem NdWtrue.kept {W2 W W':World} {D cb:Nat} {v:Value} {L:List Int} {bx:Obj} (h:NdWtrue W2 D v L cb bx W) (hb:Below W.heap.size W W'):NdWtrue W2 D v L cb bx W' :=
 ⟨h.1.trans (hb.mono h.1.size),h.2.1.kept (fun j h0 _ _=>hb.block j h0),(hb.block cb (bL h.2.2)).trans h.2.2⟩
set_option maxRecDepth 100000 in
set_option maxHeartbeats 2000000 in
theorem specl5Need_true (ac ar:Option Addr) (cc cr:Nat) (t:T) (hD:Drawn t) (ag:Option Addr) (cg:Nat) (w:World) {z zg:Nat} (hr:RowsAt w z (.slice ar t.rows.length cr) t.rows) (hg:GsAt w zg (.slice ag (gOf t).cells.length cg) (gOf t).cells) (C:Nat) (hgc:(gOf t).cols=C) (hC1:1≤C) (a0:Option Addr) (c0:Nat) (h0:IntsAt w (.slice a0 C c0) (zeroL C)) :
  Calls Tryz.prog 67 #[.agg #[.slice ac t.cols.length cc,.int .i64 t.head,.int .i64 t.foot,.slice ar t.rows.length cr,.int .i64 t.gap],.agg #[.int .i64 (gOf t).rows,.int .i64 (gOf t).cols,.slice ag (gOf t).cells.length cg],.bool true,.slice a0 C c0] w fun e w'=>∃ v,e=.returned v∧RowI w' w.heap.size w'.heap.size v (needTo (fun x=>((leastOf (wordsW (textOf t x)):Nat):Int)) t.gap (gOf t).cells (zeroL C) 4)∧Below w.heap.size w w':=by
 obtain ⟨i0,hi0,hz0,hz1,hz2⟩:=info_parts infoI4
 obtain ⟨h40,C',hgc',hC88,hcel⟩:=cel_of hD
 obtain rfl:C'=C:=by rw [hgc'] at hgc;omega
 have hzl:(zeroL C').length=C':=by simp [zeroL]
 obtain ⟨P,hP⟩:∃ P:GC→Int,P=fun x=>((leastOf (wordsW (textOf t x)):Nat):Int):=⟨_,rfl⟩
 have hpl:∀ x:GC,P x≤30:=fun x=>by have:=leastOf_le (wordsW (textOf t x));rw [hP];show ((leastOf (wordsW (textOf t x)):Nat):Int)≤30;omega
 have hpl0:∀ x:GC,0≤P x:=fun x=>by rw [hP];show (0:Int)≤((leastOf (wordsW (textOf t x)):Nat):Int);omega
 have HPx:=Hd (fun x=>show P x=((leastOf (wordsW (textOf t x)):Nat):Int) by rw [hP])
 rw [← hP]
 clear hP
 have HCel:=Hd hcel
 have hup:=need_up (p:=P) (l:=zeroL C') hcel h40 hzl hpl (zero_up _)
 have hps:=fun s hs=>pass_up (p:=P) (s:=((s+1:Nat):Int)) (l:=needTo P t.gap (gOf t).cells (zeroL C') s) hcel (by rw [needTo_len];exact hzl) hpl (hup s hs)
 have HPs:=Hd hps
 have hmx:Tryz.prog.follows .mixedOrders=true:=by kernel_rfl
 obtain ⟨b0,off0,cap0,e0,_,_,hbw0,_⟩:=h0.get (show 0 < (zeroL C').length by omega)
 simp only [Value.slice.injEq,hzl,true_and] at e0
 obtain ⟨rfl,rfl⟩:=e0
 obtain ⟨W1,hW1⟩:∃ W1,w.alloc (.cells #[.slice ac t.cols.length cc,.int .i64 t.head,.int .i64 t.foot,.slice ar t.rows.length cr,.int .i64 t.gap] 26)=W1:=⟨_,rfl⟩
 have hs1:W1.heap.size=w.heap.size+1:=by rw [← hW1];simp
 have K1:Below w.heap.size w W1:=by rw [← hW1];exact k_alloc (Below.refl _ _) _
 have X1:W1.heap[w.heap.size]?=some (.cells #[.slice ac t.cols.length cc,.int .i64 t.head,.int .i64 t.foot,.slice ar t.rows.length cr,.int .i64 t.gap] 26):=by rw [← hW1];exact newestB _ _
 obtain ⟨W2,hW2⟩:∃ W2,W1.alloc (.cells #[.int .i64 (gOf t).rows,.int .i64 (gOf t).cols,.slice ag (gOf t).cells.length cg] 36)=W2:=⟨_,rfl⟩
 have hs2:W2.heap.size=w.heap.size+2:=by rw [← hW2];simp [hs1]
 have K2:Below w.heap.size w W2:=by rw [← hW2];exact k_alloc K1 _
 have X2:W2.heap[w.heap.size]?=some (.cells #[.slice ac t.cols.length cc,.int .i64 t.head,.int .i64 t.foot,.slice ar t.rows.length cr,.int .i64 t.gap] 26):=by rw [← hW2];exact (Below.heap_alloc _ _ _ (by omega)).trans X1
 have Y2:W2.heap[w.heap.size+1]?=some (.cells #[.int .i64 (gOf t).rows,.int .i64 (gOf t).cols,.slice ag (gOf t).cells.length cg] 36):=by
  have:=newestB W1 (.cells #[.int .i64 (gOf t).rows,.int .i64 (gOf t).cols,.slice ag (gOf t).cells.length cg] 36)
  rw [hW2,hs1] at this
  exact this
 have H2:=Hd (And.intro (hr.kept K2) (And.intro (hg.kept K2) (And.intro X2 Y2)))
 have HI2:=Hd (h0.kept K2)
 have HK2:=Hd K2
 clear hr hg h0 X1 K1 X2 Y2 K2 hcel hup hps hD hgc hgc'
 go_enter Tryz.func67,Tryz.ntmps67
 go_upto_region 1 with fail
 clear hW1 hW2 W1 hs1
 have HS2:=Hd hs2
 clear hs2
 go_wp2_with (at_builtin;refine wpList_append_own_at _ rfl _ _ 32 rfl W2.heap.size 3 i0 (.int .i64 0) 1 8 Tryz.underlying32 hi0 hz0 hz1 hz2 rfl (by decide) _ 0 [] rfl (World.ownsRow_made (base:=W2.heap.size) (e:=3) (size:=1) W2 #[] 0 (Nat.le_refl _) (Nat.zero_le _) rfl) ⟨b0,off0,none⟩ C' c0 ((zeroL C').map (Value.int .i64)) rfl ?e1 (map_cells HI2.out (k_alloc (Below.refl _ _) _)) (map_one _) ?e4 ?e5 ?e6 ?_)
 case e1=>simp [zeroL]
 case e4=>unfold maxLen;omega
 case e5=>omega
 case e6=>simp
 intro v3 w3 ho3 hg3 _ _
 have R3:=Hd (RowI.of_owns (l:=zeroL C') (by simpa [zeroL] using ho3))
 have K3:Hid (Below W2.heap.size W2 w3):=(k_alloc (Below.refl W2.heap.size W2) (.cells #[] 3)).grown hg3 (by simp) (fun q hq=>by
  have:q=W2.heap.size:=by simpa [Value.ownBlock] using hq.symm
  omega)
 obtain ⟨a3,c3,rfl⟩:=R3.out.form
 rw [hzl] at R3 ⊢
 clear ho3 hg3 HI2
 go_wp2_with fail
 go_loopw [10] (fun s W=>∃ m:Nat,s=.int .i64 ((m:Int)+1)∧m≤4∧Hid (RowI W W2.heap.size w3.heap.size (.slice a3 C' c3) (needTo P t.gap (gOf t).cells (zeroL C') m))∧Hid (Below W2.heap.size W2 W)∧w3.heap.size≤W.heap.size) (fun s _=>5 - (intOf s).toNat)
 case atStart=>exact ⟨0,rfl,by omega,R3,K3,Nat.le_refl _⟩
 case round =>
  clear R3 K3
  obtain ⟨m,rfl,hm,HR,HB,hsz⟩:=hrel
  by_cases hlt:m < 4
  case neg =>
   obtain rfl:m=4:=by omega
   have HF:=Hd (HR.out.base (B':=w.heap.size) (D':=wr.heap.size) (by rw [HS2.out];omega) hsz)
   have HK:=Hd (HK2.out.trans (HB.out.mono (by rw [HS2.out];omega)))
   go_wp2
   go_ret
   exact ⟨_,rfl,HF.out,HK.out⟩
  have HUm:=Hd (HPs.out m (by omega) (by omega))
  go_wp2_with fail
  rw [show decide ((m:Int)+1≤4)=true by simp;omega]
  go_loopw [11] (fun s W=>∃ k:Nat,s=.int .i64 k∧k≤(gOf t).cells.length∧Hid (RowI W W2.heap.size w3.heap.size (.slice a3 C' c3) (passTo P t.gap ((m+1:Nat):Int) (gOf t).cells (needTo P t.gap (gOf t).cells (zeroL C') m) k))∧Hid (Below W2.heap.size W2 W)∧w3.heap.size≤W.heap.size) (fun s _=>(gOf t).cells.length - (intOf s).toNat)
  case atStart=>exact ⟨0,rfl,Nat.zero_le _,HR,HB,hsz⟩
  case round=>as_aux_lemma =>
   clear HR HB hsz
   obtain ⟨k,rfl,hk,HR,HB,hsz⟩:=hrel
   have Y:=Hd ((HB.out.block (w.heap.size+1) (by rw [HS2.out];omega)).trans H2.out.2.2.2)
   have y2:wr.cell? ⟨w.heap.size+1,2,none⟩=some (.slice ag (gOf t).cells.length cg):=cellB Y.out
   have hyw:w.heap.size+1 < wr.heap.size:=(bL Y.out)
   by_cases hkl:k < (gOf t).cells.length
   case neg =>
    obtain rfl:k=(gOf t).cells.length:=by omega
    clear Y
    go_wp2
    go_roundw
    case rel=>exact ⟨m+1,by go_num,by omega,HR,HB,hsz⟩
    case measure=>simp [intOf];omega
   obtain ⟨b,off,cap',e',hc1,hc2,hbl,hx,_⟩:=At.get (H2.out.2.1.kept HB.out) hkl
   simp only [Value.slice.injEq,true_and] at e'
   obtain ⟨rfl,rfl⟩:=e'
   unfold maxLen at hc2
   have HCe:=Hd (HCel.out k hkl)
   have HSz:=Hd (text_size HCe.out (H2.out.1.kept HB.out))
   obtain ⟨⟨rn,jn,cn,mn,e1,e2,e3,e4,h1,h2,h3,h4,h5⟩,hgp,hrs⟩:=HCel.out k hkl
   have hub:=HUm.out k hk
   have HNo:Hid ((mn:Int) ≠ ((m+1:Nat):Int)→passTo P t.gap ((m+1:Nat):Int) (gOf t).cells (needTo P t.gap (gOf t).cells (zeroL C') m) (k+1)=passTo P t.gap ((m+1:Nat):Int) (gOf t).cells (needTo P t.gap (gOf t).cells (zeroL C') m) k):=fun h=>by rw [passTo,if_neg (by rw [e4];exact h)]
   have HYes:Hid ((mn:Int)=((m+1:Nat):Int)→passTo P t.gap ((m+1:Nat):Int) (gOf t).cells (needTo P t.gap (gOf t).cells (zeroL C') m) (k+1)=wideL (passTo P t.gap ((m+1:Nat):Int) (gOf t).cells (needTo P t.gap (gOf t).cells (zeroL C') m) k) cn mn t.gap (P ((gOf t).cells.getD k dG))):=fun h=>by rw [passTo,if_pos (by rw [e4];exact h),e3,e4,Int.toNat_natCast,Int.toNat_natCast]
   have hll:=passTo_len P t.gap ((m+1:Nat):Int) (gOf t).cells (needTo P t.gap (gOf t).cells (zeroL C') m) k
   rw [needTo_len,hzl] at hll
   generalize (gOf t).cells.getD k dG=x at hx e1 e2 e3 e4 HYes hrs HCe HSz
   generalize hL:passTo P t.gap ((m+1:Nat):Int) (gOf t).cells (needTo P t.gap (gOf t).cells (zeroL C') m) k=L at HR HNo HYes hub hll
   clear hL
   have HKT:=Hd (fun (W:World) (hR:RowsAt W z (.slice ar t.rows.length cr) t.rows)=>specl5Text ac ar cc cr t x HCe.out W hR)
   simp only [e1,e2,e3,e4] at HKT
   obtain ⟨x0,x1,x2,x3,x4⟩:=hx
   rw [e1] at x0
   rw [e2] at x4
   rw [e3] at x1
   rw [e4] at x3
   by_cases hms:(mn:Int)=(m:Int)+1
   case neg =>
    have hmb:((mn:Int) != (m:Int)+1)=true:=by simpa using hms
    have HL:=Hd (HNo.out (by omega))
    clear HNo HYes e1 e2 e3 e4 hms Y
    go_wp2
    go_roundw
    case rel=>exact ⟨k+1,by go_num,by omega,by rw [HL.out];exact HR.out.kept (fun j h0 _ _=>Below.heap_alloc _ _ _ h0),k_alloc HB.out _,by simp;omega⟩
    case measure=>simp [intOf];omega
   obtain rfl:mn=m+1:=by omega
   have HL:=Hd (HYes.out rfl)
   have hmb:((m:Int)+1 != (m:Int)+1)=false:=by simp
   have hcast:((m+1:Nat):Int)=(m:Int)+1:=by omega
   rw [hcast] at x3
   simp only [hcast] at HKT
   clear HNo HYes e1 e2 e3 e4 hms hcast
   go_upto_region 10 with fail
   have HN4:Hid (NdWtrue W2 w3.heap.size (.slice a3 C' c3) L wr.heap.size (.cells #[.int .i64 (rn:Int),.int .i64 (cn:Int),.int .i64 x.rows,.int .i64 ((m:Int)+1),.int .i64 (jn:Int)] 49) (wr.alloc (.cells #[.int .i64 (rn:Int),.int .i64 (cn:Int),.int .i64 x.rows,.int .i64 ((m:Int)+1),.int .i64 (jn:Int)] 49))):=⟨k_alloc HB.out _,HR.out.kept (fun j h0 _ _=>Below.heap_alloc _ _ _ h0),newestB _ _⟩
   have hsz4:w3.heap.size≤(wr.alloc (.cells #[.int .i64 (rn:Int),.int .i64 (cn:Int),.int .i64 x.rows,.int .i64 ((m:Int)+1),.int .i64 (jn:Int)] 49)).heap.size:=by simp;omega
   generalize wr.alloc (.cells #[.int .i64 (rn:Int),.int .i64 (cn:Int),.int .i64 x.rows,.int .i64 ((m:Int)+1),.int .i64 (jn:Int)] 49)=W4 at HN4 hsz4 ⊢
   have HCz:Hid (w3.heap.size≤wr.heap.size):=hsz
   generalize wr.heap.size=cb at HN4 HCz ⊢
   clear Y HR HB hsz x0 x1 x2 x3 x4 hbl y2 hyw
   have X4:=(HN4.out.1.block w.heap.size (by rw [HS2.out];omega)).trans H2.out.2.2.1
   have C4:=HN4.out.2.2
   have ht4:w.heap.size < W4.heap.size:=(bL X4)
   have hcb4:cb < W4.heap.size:=(bL C4)
   obtain ⟨b0,b1,b2,b3,b4⟩:W4.cell? ⟨w.heap.size,0,none⟩=some (.slice ac t.cols.length cc)∧W4.cell? ⟨w.heap.size,1,none⟩=some (.int .i64 t.head)∧W4.cell? ⟨w.heap.size,2,none⟩=some (.int .i64 t.foot)∧W4.cell? ⟨w.heap.size,3,none⟩=some (.slice ar t.rows.length cr)∧W4.cell? ⟨w.heap.size,4,none⟩=some (.int .i64 t.gap):=⟨cellB X4,cellB X4,cellB X4,cellB X4,cellB X4⟩
   obtain ⟨q0,q1,q2,q3,q4⟩:W4.cell? ⟨cb,0,none⟩=some (.int .i64 (rn:Int))∧W4.cell? ⟨cb,1,none⟩=some (.int .i64 (cn:Int))∧W4.cell? ⟨cb,2,none⟩=some (.int .i64 x.rows)∧W4.cell? ⟨cb,3,none⟩=some (.int .i64 ((m:Int)+1))∧W4.cell? ⟨cb,4,none⟩=some (.int .i64 (jn:Int)):=⟨cellB C4,cellB C4,cellB C4,cellB C4,cellB C4⟩
   clear X4 C4
   go_wp2_with fail
   refine (HKT.out _ (H2.out.1.kept HN4.out.1)).mono ?_
   rintro e w5 ⟨rfl,_,hb5⟩
   have HN5:=Hd (HN4.out.kept hb5)
   have hsz5:w3.heap.size≤w5.heap.size:=Nat.le_trans hsz4 hb5.size
   clear hb5 HN4 hsz4 b0 b1 b2 b3 b4 q0 q1 q2 q3 q4 ht4 hcb4
   go_wp2_with fail
   refine (specTxtWish _ HSz.out _).mono ?_
   rintro e w6 ⟨rfl,rfl⟩
   obtain ⟨b0,b1,b2,b3,b4⟩:=fiveO ((HN5.out.1.block w.heap.size (by rw [HS2.out];omega)).trans H2.out.2.2.1)
   obtain ⟨q0,q1,q2,q3,q4⟩:=fiveO HN5.out.2.2
   have ht5:=(Array.getElem?_eq_some_iff.1 ((HN5.out.1.block w.heap.size (by rw [HS2.out];omega)).trans H2.out.2.2.1)).1
   have hcb5:=(bL HN5.out.2.2)
   go_wp2_with fail
   refine (HKT.out _ (H2.out.1.kept HN5.out.1)).mono ?_
   rintro e w7 ⟨rfl,_,hb7⟩
   have HN7:=Hd (HN5.out.kept hb7)
   have hsz7:w3.heap.size≤w7.heap.size:=Nat.le_trans hsz5 hb7.size
   clear hb7 HN5 hsz5 b0 b1 b2 b3 b4 q0 q1 q2 q3 q4 ht5 hcb5
   go_wp2_with fail
   refine (specTxtLeast _ HSz.out _).mono ?_
   rintro e W8 ⟨rfl,hb8⟩
   have HN8:=Hd (HN7.out.kept hb8)
   have hsz8:w3.heap.size≤W8.heap.size:=Nat.le_trans hsz7 hb8.size
   clear hb8 HN7 hsz7
   rw [← HPx.out x]
   have hp0:=hpl0 x
   have hp30:=hpl x
   have HLk:Hid (lackV L cn (m+1) t.gap (P x)=P x - ((subL L cn (m+1)).sum+t.gap * (m:Int))):=by rw [Hid,lackV,show ((m+1:Nat):Int) - 1=(m:Int) by omega]
   have HOk:=Hd (fun h=>(lack_ok (l:=L) (c:=cn) (m:=m+1) (gap:=t.gap) (need:=P x) (fun i hi=>by have:=hub i hi;omega) (by omega) ⟨h4,h5⟩ hgp hp30 h).1)
   have HWn:Hid (lackV L cn (m+1) t.gap (P x)≤0→wideL L cn (m+1) t.gap (P x)=L):=fun h=>by rw [wideL,if_pos h]
   have HWy:Hid (¬ lackV L cn (m+1) t.gap (P x)≤0→wideL L cn (m+1) t.gap (P x)=addTo L cn (shareL (lackV L cn (m+1) t.gap (P x)) (subL L cn (m+1))) (m+1)):=fun h=>by rw [wideL,if_neg h]
   have hG:=gap_facts hgp hlt
   have HSubF:=Hd (sub_facts hub (show 1200 * (m:Int)+30 * (k:Int)≤50000 by omega) hll h3 h5)
   have HcL:Hid (cn+(m+1)≤L.length):=by rw [Hid,hll];exact h3
   generalize P x=need at hp0 hp30 HLk HOk HWn HWy HL
   go_upto_region 13 with fail
   obtain ⟨g3,cap3,eg3,hBg3,hgD3,hgw3,hc13,hc23,_,_⟩:=HN8.out.2.1.get (i:=cn) (by omega)
   rw [hll] at eg3
   simp only [Value.slice.injEq,true_and] at eg3
   obtain ⟨rfl,rfl⟩:=eg3
   unfold maxLen at hc23
   rw [hll] at hc13
   have HBg:=Hd hBg3
   have HgD:=Hd hgD3
   obtain ⟨t3,t4,t5,t6,t10,t11,t12,t13⟩:=slice_facts2 (Nat.le_trans h3 hc13) (Nat.le_trans h3 hC88)
   obtain ⟨hwt,hsm,hsl⟩:=HSubF.out
   have HSub:=Hd (HN8.out.2.1.sub (c:=cn) (m:=m+1) HcL.out (Nat.succ_le_succ (Nat.zero_le m)))
   have hne:=bw_some W8
   have hsl1:(subL L cn (m+1)).length≤1000:=by rw [hsl];omega
   have KSm:=Hd (fun (p:BW W8)=>bw_same (specl1Sum_any _ (subL L cn (m+1)) hsl1 hwt p.u (HSub.out.kept p.h)))
   have hcb:cb < W8.heap.size:=(bL HN8.out.2.2)
   have X8:=(HN8.out.1.block w.heap.size (by rw [HS2.out];omega)).trans H2.out.2.2.1
   have htb:w.heap.size < W8.heap.size:=(bL X8)
   have g1:=bw_cell (a:=⟨cb,1,none⟩) hcb (cellB (p:=1) HN8.out.2.2)
   have g2:=bw_cell (a:=⟨cb,3,none⟩) hcb (cellB (p:=3) HN8.out.2.2)
   have g4:=bw_cell (a:=⟨w.heap.size,4,none⟩) htb (cellB (p:=4) X8)
   clear X8 HKT HSz HCe hwt hsl1
   generalize (subL L cn (m+1)).sum=Y at KSm HLk hsm
   refine wp_region_quiet_below hmx (by kernel_rfl) ?_
   repeat (go_big_quiet_step (first | (go_at_call 33;refine KSm.out _)))
   refine wpQuiet_nil ?_
   intro W9 hw'
   obtain ⟨⟨Wx,hW9⟩,hw''⟩:=hw'
   subst hw''
   have HN9:=Hd (HN8.out.kept hW9)
   have hsz9:w3.heap.size≤W9.heap.size:=Nat.le_trans hsz8 hW9.size
   have HSub9:=Hd (HSub.out.kept hW9)
   clear g1 g2 g4 KSm HN8 hsz8 HSub hW9 hne hcb htb
   by_cases hl:need≤Y+t.gap * (m:Int)
   case pos =>
    have hlb:¬ (Y+t.gap * (m:Int) < need):=by omega
    have HL2:=Hd (HL.out.trans (HWn.out (by rw [HLk.out];omega)))
    clear HLk HOk HWn HWy HL hl t3 t4 t5 t6 t10 t11 t12 t13
    go_wp2
    go_roundw
    case rel=>exact ⟨k+1,by go_num,by omega,by rw [HL2.out];exact HN9.out.2.1,HN9.out.1,hsz9⟩
    case measure=>simp [intOf];omega
   have hlb:Y+t.gap * (m:Int) < need:=by omega
   have hlk:0 < lackV L cn (m+1) t.gap need:=by rw [HLk.out];omega
   have HL2:=Hd (HL.out.trans (HWy.out (by omega)))
   have hok:=HOk.out hlk
   have KSh:=Hd (l4Share_any (lackV L cn (m+1) t.gap need) (.slice (some ⟨g3,cn,none⟩) (m+1) (c3 - cn)) (subL L cn (m+1)) hok (by rw [hsl];omega) W9 HSub9.out)
   have HSB:=Hd (fun k hk=>shareL_small (t:=lackV L cn (m+1) t.gap need) (l:=subL L cn (m+1)) k hk)
   have hshl:=shareL_len hok
   rw [hsl] at hshl
   rw [HLk.out] at KSh HL2 HSB hshl
   clear hok hlk HOk HWn HWy HL HLk hl
   generalize shareL (need - (Y+t.gap * (m:Int))) (subL L cn (m+1))=sh at KSh HL2 HSB hshl
   obtain ⟨q0,q1,q2,q3,q4⟩:=fiveO HN9.out.2.2
   have hcb:=(bL HN9.out.2.2)
   go_wp2_with fail
   refine KSh.out.mono ?_
   rintro e w10 ⟨v10,rfl,hr10,hb10⟩
   obtain ⟨a10,c10,rfl⟩:=hr10.form
   rw [hshl] at hr10 ⊢
   have HN10:=Hd (HN9.out.kept hb10)
   have HS10:=Hd hr10
   have hz9:w3.heap.size≤W9.heap.size:=hsz9
   have hz10:W9.heap.size≤w10.heap.size:=hb10.size
   clear hr10 hb10 KSh HN9 hsz9 HSub9 q0 q1 q2 q3 q4 hcb t3 t4 t5 t6 t10 t11 t12 t13
   go_wp2_with fail
   go_loopw [16] (fun s W=>∃ j:Nat,s=.int .i64 j∧j≤m+1∧Hid (NdWtrue W2 w3.heap.size (.slice (some ⟨g3,0,none⟩) C' c3) (addTo L cn sh j) cb (.cells #[.int .i64 (rn:Int),.int .i64 (cn:Int),.int .i64 x.rows,.int .i64 ((m:Int)+1),.int .i64 (jn:Int)] 49) W)∧Hid (RowI W W9.heap.size w10.heap.size (.slice a10 (m+1) c10) sh)∧w10.heap.size≤W.heap.size) (fun s _=>m+1 - (intOf s).toNat)
   case atStart=>exact ⟨0,rfl,Nat.zero_le _,HN10,HS10,Nat.le_refl _⟩
   case round=>as_aux_lemma =>
    clear HN10 HS10
    obtain ⟨j,rfl,hj,HN,HS,hszj⟩:=hrel
    by_cases hjm:j < m+1
    case neg =>
     obtain rfl:j=m+1:=by omega
     go_wp2
     go_roundw
     case rel=>exact ⟨k+1,by go_num,by omega,by rw [HL2.out];exact HN.out.2.1,HN.out.1,by omega⟩
     case measure=>simp [intOf];omega
    obtain ⟨gs,cs,es,hBs,hDs,hgsw,hcs1,hcs2,hsx,_⟩:=HS.out.get (i:=j) (by omega)
    simp only [Value.slice.injEq,hshl,true_and] at es
    obtain ⟨rfl,rfl⟩:=es
    obtain ⟨g4,c4,ex4,_,_,hgw4,_,_,hxx,_⟩:=HN.out.2.1.get (i:=cn+j) (by rw [addTo_len];omega)
    rw [addTo_len,hll] at ex4
    simp only [Value.slice.injEq,Option.some.injEq,Addr.mk.injEq,and_true,true_and] at ex4
    have eg4:=ex4.1
    clear ex4
    subst eg4
    rw [addTo_out L cn sh (i:=cn+j) j (fun i hi=>by omega)] at hxx
    have hbx:0≤L.getD (cn+j) 0∧L.getD (cn+j) 0≤50000:=by have:=hub (cn+j) (by omega);omega
    have hbs:=HSB.out j (by omega)
    have v1:(j:Int) < (m:Int)+1:=by omega
    have v2:(j:Int) < ((m+1:Nat):Int):=by omega
    have HN2:Hid (addTo L cn sh (j+1)=(addTo L cn sh j).set (cn+j) (L.getD (cn+j) 0+sh.getD j 0)):=rfl
    have HLj:Hid (cn+j < (addTo L cn sh j).length):=by rw [Hid,addTo_len];omega
    have HMe:Hid (m+1 - (j+1) < m+1 - j):=by rw [Hid];omega
    have HGo:Hid (W2.heap.size≤g3):=HBg.out
    have HCb:Hid (cb ≠ g3):=by rw [Hid];have h8:=HgD.out;have h9:=HCz.out;omega
    have HSs:Hid (g3 < W9.heap.size):=by rw [Hid];have:=HgD.out;omega
    have HSet:=Hd (fun W (h:Below wr.heap.size wr W)=>(HN.out.kept h).2.1.set (i:=cn+j) HLj.out (L.getD (cn+j) 0+sh.getD j 0))
    rw [← HN2.out] at HSet
    generalize L.getD (cn+j) 0=y at hxx hbx HSet
    generalize sh.getD j 0=q at hsx hbs HSet
    obtain ⟨u1,u2,u3,u4,u5⟩:=idx_facts (cn:=cn) (j:=j) (C:=C') (by omega) hC88
    have hcbj:=(bL HN.out.2.2)
    have hne:=bw_some wr
    have r1:=bw_cell (a:=⟨cb,1,none⟩) hcbj (cellB (p:=1) HN.out.2.2)
    have r2:=bw_cell (a:=⟨g3,cn+j,none⟩) hgw4 hxx
    have r3:=bw_cell (a:=⟨gs,j,none⟩) hgsw hsx
    unfold maxLen at hcs2
    have hc13':C'≤c3:=hc13
    have hsum:IntKind.i64.wrap (y+q)=y+q:=kind_small (by omega)
    have hsum2:wrap64 (y+q)=y+q:=W_small (by omega)
    clear HN2 hsx hxx hub hsm hG hgp hp0 hp30 hlb
    go_upto_region 19 with fail
    refine wp_region_last 18 hmx (by rfl) (by rfl) (by kernel_rfl) (by kernel_rfl) ?_
    simp only [List.take_succ_cons,List.take_zero]
    repeat (go_big_quiet_step (fail))
    refine wpQuiet_nil ?_
    intro W5 hw'
    obtain ⟨⟨Wx,hW5⟩,hw''⟩:=hw'
    subst hw''
    have HR5:=Hd (HSet.out _ hW5)
    have HN5:=Hd (HN.out.kept hW5)
    have HS5:=Hd (HS.out.kept (fun j h0 _ _=>hW5.block j h0))
    have hsz5:w10.heap.size≤W5.heap.size:=Nat.le_trans hszj hW5.size
    obtain ⟨g5,c5,ex5,_,_,hgw5,_,_,hx5,hf5⟩:=HN5.out.2.1.get (i:=cn+j) HLj.out
    simp only [Value.slice.injEq,Option.some.injEq,Addr.mk.injEq,and_true] at ex5
    have eg5:=ex5.1
    clear ex5
    subst eg5
    clear r1 r2 r3 HSet HN HS hW5 hne hszj
    have HN6:Hid (NdWtrue W2 w3.heap.size (.slice (some ⟨g3,0,none⟩) C' c3) (addTo L cn sh (j+1)) cb (.cells #[.int .i64 (rn:Int),.int .i64 (cn:Int),.int .i64 x.rows,.int .i64 ((m:Int)+1),.int .i64 (jn:Int)] 49) (W5.setCell ⟨g3,cn+j,none⟩ (.int .i64 (y+q)))):=⟨k_set HN5.out.1 (p:=⟨g3,cn+j,none⟩) HGo.out _,HR5.out,(Below.heap_setCell _ _ _ _ HCb.out).trans HN5.out.2.2⟩
    have HS6:=Hd (HS5.out.kept (w':=W5.setCell ⟨g3,cn+j,none⟩ (.int .i64 (y+q))) (fun i _ h1 _=>Below.heap_setCell _ _ _ _ (fun e=>by have e':i=g3:=e;subst e';exact absurd h1 (Nat.not_le.2 HSs.out))))
    have HZ6:Hid (w10.heap.size≤(W5.setCell ⟨g3,cn+j,none⟩ (.int .i64 (y+q))).heap.size):=by rw [Hid,sizeSet];exact hsz5
    have HJ:Hid (j+1≤m+1):=hjm
    clear HN5 HR5 HS5 hsz5
    rw [if_pos (by rfl)]
    go_simp
    clear u1 u2 u3 u4 u5 hsum hsum2
    go_wp2
    go_roundw
    case rel=>exact ⟨j+1,by go_num,HJ.out,HN6,HS6,HZ6.out⟩
    case measure=>simp [intOf];omega
set_option maxRecDepth 100000 in
theorem specl5Zero (r:Int) (vg:Value) (C:Nat) (hC:C≤88) (w:World) :
  Calls Tryz.prog 68 #[.agg #[.int .i64 r,.int .i64 (C:Int),vg]] w fun e w'=>∃ v,e=.returned v∧RowI w' w.heap.size w'.heap.size v (zeroL C)∧Below w.heap.size w w':=by
 have hmk:=makeI C (by omega)
 have X0:=newestB w (.cells #[.int .i64 r,.int .i64 (C:Int),vg] 36)
 have x1:(w.alloc (.cells #[.int .i64 r,.int .i64 (C:Int),vg] 36)).cell? ⟨w.heap.size,1,none⟩=some (.int .i64 (C:Int)):=cellB X0
 clear X0
 go_enter Tryz.func68,Tryz.ntmps68
 go_wp2
 go_ret
 have R:=row_new (w.alloc (.cells #[.int .i64 r,.int .i64 (C:Int),vg] 36)) C (by omega)
 refine ⟨_,rfl,?_,k_alloc (k_alloc (Below.refl _ _) _) _⟩
 have R2:=R.base (B':=w.heap.size) (D':=w.heap.size+1+1) (by simp) (by simp)
 simpa [zeroL] using R2
def Ls (w:World) (z zg:Nat) (ac ar:Option Addr) (cc cr:Nat) (t:T) (ag:Option Addr) (cg:Nat) (W:World):Prop :=
 Below w.heap.size w W∧(ColsAt W z (.slice ac t.cols.length cc) t.cols∧RowsAt W z (.slice ar t.rows.length cr) t.rows)∧GsAt W zg (.slice ag (gOf t).cells.length cg) (gOf t).cells∧W.heap[w.heap.size]?=some (.cells #[.slice ac t.cols.length cc,.int .i64 t.head,.int .i64 t.foot,.slice ar t.rows.length cr,.int .i64 t.gap] 26)∧W.heap[w.heap.size+1]?=some (.cells #[.int .i64 (gOf t).rows,.int .i64 (gOf t).cols,.slice ag (gOf t).cells.length cg] 36)
theorem Ls.kept {w W W':World} {z zg:Nat} {ac ar ag:Option Addr} {cc cr cg:Nat} {t:T} (h:Ls w z zg ac ar cc cr t ag cg W) (hb:Below W.heap.size W W'):Ls w z zg ac ar cc cr t ag cg W' :=
 ⟨h.1.trans (hb.mono h.1.size),⟨h.2.1.1.kept hb,h.2.1.2.kept hb⟩,h.2.2.1.kept hb,(hb.block _ (bL h.2.2.2.1)).trans h.2.2.2.1,(hb.block _ (bL h.2.2.2.2)).trans h.2.2.2.2⟩
theorem threeO {w:World} {g:Nat} {x0 x1 x2:Value} {t:TypeId} (h:w.heap[g]?=some (.cells #[x0,x1,x2] t)) :
  w.cell? ⟨g,0,none⟩=some x0∧w.cell? ⟨g,1,none⟩=some x1∧w.cell? ⟨g,2,none⟩=some x2:=⟨cellB h,cellB h,cellB h⟩
set_option maxRecDepth 100000 in
set_option maxHeartbeats 1000000 in
theorem specl5Least (ac ar:Option Addr) (cc cr:Nat) (t:T) (hD:Drawn t) (ag:Option Addr) (cg:Nat) (w:World) {z zg:Nat} (hc:ColsAt w z (.slice ac t.cols.length cc) t.cols) (hr:RowsAt w z (.slice ar t.rows.length cr) t.rows) (hg:GsAt w zg (.slice ag (gOf t).cells.length cg) (gOf t).cells) (hok:tblB t=true) :
  Calls Tryz.prog 34 #[.agg #[.slice ac t.cols.length cc,.int .i64 t.head,.int .i64 t.foot,.slice ar t.rows.length cr,.int .i64 t.gap],.agg #[.int .i64 (gOf t).rows,.int .i64 (gOf t).cols,.slice ag (gOf t).cells.length cg]] w fun e w'=>∃ v,e=.returned v∧RowI w' w.heap.size w'.heap.size v (leastL t)∧Below w.heap.size w w':=by
 obtain ⟨_,C,hgc,hC,_⟩:=cel_of hD
 have hC1:1≤C:=by
  have h1:(gOf t).cols=colsOf (max 1 (t.cols.length:Int)) (gridOf t):=by rw [gOf_ok hok]
  have h2:=colsOf_ge (gridOf t) (max 1 (t.cols.length:Int))
  omega
 have HCN:=Hd (colN_of hgc)
 have HL:Hid (fixTo t.cols (needL t (leastP t)) C=leastL t):=by rw [Hid,leastL,HCN.out]
 have hNL:needTo (fun x=>((leastOf (wordsW (textOf t x)):Nat):Int)) t.gap (gOf t).cells (zeroL C) 4=needL t (leastP t):=by unfold needL;rw [HCN.out];rfl
 have hlen:=needL_len t (leastP t)
 rw [HCN.out] at hlen
 have HUp:=Hd (needL_up hD (fun x=>(leastP_le t x).2))
 have HSd:=Hd (fun k (hk:k < C)=>sd_small (t:=t) (k:=k) (by rw [HCN.out];exact hk))
 have hzl:(zeroL C).length=C:=by simp [zeroL]
 have hfl0:=field0
 have hfl1:=field1
 have hmx:Tryz.prog.follows .mixedOrders=true:=by kernel_rfl
 have KN:=Hd (fun W h1 h2 a0 c0 h3=>specl5Need_true ac ar cc cr t hD ag cg W (z:=z) (zg:=zg) h1 h2 C hgc hC1 a0 c0 h3)
 have KZ:=Hd (fun W=>specl5Zero (gOf t).rows (.slice ag (gOf t).cells.length cg) C hC W)
 rw [← hgc] at KZ
 rw [hNL] at KN
 generalize needL t (leastP t)=L at KN HL hlen HUp
 have HP:Hid (Ls w z zg ac ar cc cr t ag cg ((w.alloc (.cells #[.slice ac t.cols.length cc,.int .i64 t.head,.int .i64 t.foot,.slice ar t.rows.length cr,.int .i64 t.gap] 26)).alloc (.cells #[.int .i64 (gOf t).rows,.int .i64 (gOf t).cols,.slice ag (gOf t).cells.length cg] 36))):=by
  have K:=k_alloc (k_alloc (Below.refl w.heap.size w) (.cells #[.slice ac t.cols.length cc,.int .i64 t.head,.int .i64 t.foot,.slice ar t.rows.length cr,.int .i64 t.gap] 26)) (.cells #[.int .i64 (gOf t).rows,.int .i64 (gOf t).cols,.slice ag (gOf t).cells.length cg] 36)
  refine ⟨K,⟨hc.kept K,hr.kept K⟩,hg.kept K,(Below.heap_alloc _ _ _ (by simp)).trans (newestB _ _),?_⟩
  have:=newestB (w.alloc (.cells #[.slice ac t.cols.length cc,.int .i64 t.head,.int .i64 t.foot,.slice ar t.rows.length cr,.int .i64 t.gap] 26)) (.cells #[.int .i64 (gOf t).rows,.int .i64 (gOf t).cols,.slice ag (gOf t).cells.length cg] 36)
  simpa using this
 clear hNL hc hr hg hD hgc hok
 go_enter Tryz.func34,Tryz.ntmps34
 go_upto_region 1 with fail
 generalize (w.alloc (.cells #[.slice ac t.cols.length cc,.int .i64 t.head,.int .i64 t.foot,.slice ar t.rows.length cr,.int .i64 t.gap] 26)).alloc (.cells #[.int .i64 (gOf t).rows,.int .i64 (gOf t).cols,.slice ag (gOf t).cells.length cg] 36)=W0 at HP ⊢
 obtain ⟨b0,b1,b2,b3,b4⟩:=fiveO HP.out.2.2.2.1
 obtain ⟨q0,q1,q2⟩:=threeO HP.out.2.2.2.2
 have ht0:=(bL HP.out.2.2.2.1)
 have hg0:=(bL HP.out.2.2.2.2)
 go_cut [5] (fun s W=>∃ a c D,s=.slice a C c∧Hid (RowI W W0.heap.size D (.slice a C c) L)∧Hid (Below W0.heap.size W0 W)∧D≤W.heap.size)
 case first=>as_aux_lemma =>
  have HPd:=Hd (HP.out.kept (k_drew (Below.refl _ _)))
  have HBd:=Hd (k_drew (Below.refl W0.heap.size W0))
  go_region_with (first
   | (go_at_call 68;refine (KZ.out _).mono ?_;rintro e w1 ⟨v1,rfl,hr1,hb1⟩;obtain ⟨a1,c1,rfl⟩:=hr1.form;rw [hzl] at hr1 ⊢;have R1:=Hd hr1.at;have P1:=Hd (HPd.out.kept hb1);have B1:=Hd (k_trans HBd.out hb1);clear hr1 hb1;obtain ⟨p0,p1,p2,p3,p4⟩:=fiveO P1.out.2.2.2.1;obtain ⟨r0,r1,r2⟩:=threeO P1.out.2.2.2.2;have ht1:=(bL P1.out.2.2.2.1);have hg1:=(bL P1.out.2.2.2.2))
   | (go_at_call 67;refine (KN.out _ P1.out.2.1.2 P1.out.2.2.1 a1 c1 R1.out).mono ?_;rintro e w2 ⟨v2,rfl,hr2,hb2⟩;obtain ⟨a2,c2,rfl⟩:=hr2.form;rw [hlen] at hr2 ⊢;have R2:=Hd (hr2.base (B':=W0.heap.size) B1.out.size (Nat.le_refl _));have B2:=Hd (k_trans B1.out hb2);clear hr2 hb2))
  all_goals (go_wp2_with fail;go_meet;case rel=>exact ⟨_,_,_,rfl,R2,B2,Nat.le_refl _⟩)
 case rest =>
  obtain ⟨a2,c2,D,rfl,HR0,HB0,hD0⟩:=hcut
  clear b0 b1 b2 b3 b4 q0 q1 q2 hg0 KN KZ
  go_wp2_with fail
  go_loopw [6] (fun s W=>∃ k:Nat,s=.int .i64 k∧k≤C∧Hid (RowI W W0.heap.size D (.slice a2 C c2) (fixTo t.cols L k))∧Hid (Below W0.heap.size W0 W)∧D≤W.heap.size) (fun s _=>C - (intOf s).toNat)
  case atStart=>exact ⟨0,rfl,Nat.zero_le _,HR0,HB0,hD0⟩
  case round =>
   clear HR0 HB0 hD0
   obtain ⟨k,rfl,hk,HR,HB,hsz⟩:=hrel
   by_cases hlt:k < C
   case neg =>
    obtain rfl:k=C:=by omega
    have HF:=Hd (HR.out.base (B':=w.heap.size) (D':=wr.heap.size) HP.out.1.size hsz)
    have HK:=Hd (HP.out.kept HB.out).1
    go_wp2
    go_ret
    exact ⟨_,rfl,by rw [← HL.out];exact HF.out,HK.out⟩
   have HPr:=Hd (HP.out.kept HB.out)
   obtain ⟨b0,b1,b2,b3,b4⟩:=fiveO HPr.out.2.2.2.1
   have htr:=(bL HPr.out.2.2.2.1)
   have KS:=Hd (specl5Said ac ar cc cr t (k:Int) (by omega) wr HPr.out.2.1.1)
   obtain ⟨g,cap',e',hBg,hgD,hgw,hc1,hc2,hx,hf⟩:=HR.out.get (i:=k) (by rw [fixTo_len];omega)
   rw [fixTo_len,hlen] at e' hc1
   simp only [Value.slice.injEq,true_and] at e'
   obtain ⟨rfl,rfl⟩:=e'
   unfold maxLen at hc2
   have hxb:=HUp.out k (by omega)
   rw [fixTo_out t.cols L k (Nat.le_refl _)] at hx
   have hsd:=HSd.out k hlt
   have HYes:Hid ((sd t.cols k).1=1→fixTo t.cols L (k+1)=(fixTo t.cols L k).set k (max (L.getD k 0) (sd t.cols k).2)):=fun h=>by rw [fixTo,if_pos h,fixTo_out t.cols L k (Nat.le_refl _)]
   have HNo:Hid ((sd t.cols k).1 ≠ 1→fixTo t.cols L (k+1)=fixTo t.cols L k):=fun h=>by rw [fixTo,if_neg h]
   have KS3:=Hd (fun W h=>specl5Said ac ar cc cr t (k:Int) (by omega) W (z:=z) h)
   generalize sd t.cols k=p at KS KS3 hsd HYes HNo
   by_cases hp:p.1=1
   case neg =>
    have hpb:(p.1 == 1)=false:=by simpa using hp
    have HF:=Hd (HNo.out hp)
    clear HNo HYes hsd hp KS3
    go_wp2_with fail
    refine KS.out.mono ?_
    rintro e w3 ⟨rfl,hb3⟩
    have HK3:=Hd hb3
    clear hb3
    go_wp2
    go_roundw
    case rel=>exact ⟨k+1,by go_num,by omega,by rw [HF.out];exact HR.out.kept (fun j h0 _ _=>HK3.out.block j h0),k_trans HB.out HK3.out,Nat.le_trans hsz HK3.out.size⟩
    case measure=>simp [intOf];omega
   have HF:=Hd (HYes.out hp)
   have hq:=hsd hp
   clear HNo HYes hsd
   obtain ⟨p1,p2⟩:=p
   obtain rfl:p1=1:=hp
   have hq:0≤p2∧p2≤60:=hq
   dsimp only at KS HF KS3
   go_wp2_with fail
   refine KS.out.mono ?_
   rintro e W3 ⟨rfl,hb3⟩
   have HB3:=Hd (k_trans HB.out hb3)
   have HR3:=Hd (HR.out.kept (fun j h0 _ _=>hb3.block j h0))
   have HP3:=Hd (HPr.out.kept hb3)
   have hsz3:D≤W3.heap.size:=Nat.le_trans hsz hb3.size
   clear hb3 HR HB hx hf b0 b1 b2 b3 b4 htr KS hsz HPr
   go_upto_region 6 with fail
   obtain ⟨g3,cap3,e3,hBg3,hgD3,hgw3,_,_,hx3,hf3⟩:=HR3.out.get (i:=k) (by rw [fixTo_len];omega)
   rw [fixTo_len,hlen] at e3
   simp only [Value.slice.injEq,Option.some.injEq,Addr.mk.injEq,and_true,true_and] at e3
   have eg3:=e3.1
   clear e3
   subst eg3
   rw [fixTo_out t.cols L k (Nat.le_refl _)] at hx3
   have ht3:=(bL HP3.out.2.2.2.1)
   have hne:=bw_some W3
   have m0:=bw_cell (a:=⟨w.heap.size,0,none⟩) ht3 (cellB (p:=0) HP3.out.2.2.2.1)
   have m1:=bw_cell (a:=⟨w.heap.size,1,none⟩) ht3 (cellB (p:=1) HP3.out.2.2.2.1)
   have m2:=bw_cell (a:=⟨w.heap.size,2,none⟩) ht3 (cellB (p:=2) HP3.out.2.2.2.1)
   have m3:=bw_cell (a:=⟨w.heap.size,3,none⟩) ht3 (cellB (p:=3) HP3.out.2.2.2.1)
   have m4:=bw_cell (a:=⟨w.heap.size,4,none⟩) ht3 (cellB (p:=4) HP3.out.2.2.2.1)
   have m5:=bw_cell (a:=⟨g,k,none⟩) hgw3 hx3
   have HN:=Hd (fun W (h:Below W3.heap.size W3 W)=>(HR3.out.kept (fun j h0 _ _=>h.block j h0)).set (i:=k) (by rw [fixTo_len];omega) (max (L.getD k 0) p2))
   rw [← HF.out] at HN
   have HLk:Hid (k < (fixTo t.cols L k).length):=by rw [Hid,fixTo_len];omega
   generalize L.getD k 0=y at hxb hx3 m5 HN
   have KSq:=Hd (fun (p:BW W3)=>bw_of (KS3.out p.u (HP3.out.kept p.h).2.1.1))
   have KM:=Hd (fun (p:BW W3)=>bw_same (l1Max_any y p2 p.u))
   clear hx3 hf3 HF KS3
   refine wp_region_last 12 hmx (by rfl) (by rfl) (by kernel_rfl) (by kernel_rfl) ?_
   simp only [List.take_succ_cons,List.take_zero]
   repeat (go_big_quiet_step (first | (go_at_call 69;refine KSq.out _) | (go_at_call 64;refine KM.out _)))
   refine wpQuiet_nil ?_
   intro W5 hw'
   obtain ⟨⟨Wx,hW5⟩,hw''⟩:=hw'
   subst hw''
   have HN5:=Hd (HN.out _ hW5)
   have HB5:=Hd (k_set (k_trans HB3.out hW5) (p:=⟨g,k,none⟩) hBg (.int .i64 (max y p2)))
   have hf5:=(HR3.out.kept (fun j h0 _ _=>hW5.block j h0)).get (i:=k) HLk.out
   obtain ⟨g5,cap5,e5,_,_,hgw5,_,_,hx5,hf5⟩:=hf5
   simp only [Value.slice.injEq,Option.some.injEq,Addr.mk.injEq,and_true] at e5
   have eg:=e5.1
   clear e5
   subst eg
   have hsz5:D≤(W5.setCell ⟨g,k,none⟩ (.int .i64 (max y p2))).heap.size:=by rw [sizeSet];have:=hW5.size;omega
   clear m0 m1 m2 m3 m4 m5 HN HB3 HR3 hW5 hne KSq KM
   rw [if_pos (by rfl)]
   go_simp
   go_wp2
   go_roundw
   case rel=>exact ⟨k+1,by go_num,by omega,HN5,HB5,hsz5⟩
   case measure=>simp [intOf];omega
end Go.Proofs.YtggmjiddadjilaeGreat
namespace Go.Proofs.YtggmjiddadjilaeGreat
open Go.RowKit
theorem row_lit0 (w:World) (B:Nat) (hB:B≤w.heap.size):RowI (w.alloc (.cells #[] 3)) B (w.alloc (.cells #[] 3)).heap.size (.slice (some ⟨w.heap.size,0,none⟩) 0 0) [] :=
 .inr ⟨w.heap.size,0,#[],rfl,hB,by simp,newestB _ _,Nat.le_refl _,Nat.zero_le _,rfl,fun i hi=>absurd hi (Nat.not_lt_zero _)⟩
theorem l3Of_g (ac ar:Option Addr) (cc cr:Nat) (t:T) (hD:Drawn t) (hok:tblB t=true) (w:World) {z:Nat} (hr:RowsAt w z (.slice ar t.rows.length cr) t.rows) :
  Calls Tryz.prog 32 #[.agg #[.slice ac t.cols.length cc,.int .i64 t.head,.int .i64 t.foot,.slice ar t.rows.length cr,.int .i64 t.gap]] w fun e w'=>∃ ag cg,e=.returned (.agg #[.int .i64 (gOf t).rows,.int .i64 (gOf t).cols,.slice ag (gOf t).cells.length cg])∧GsAt w' w.heap.size (.slice ag (gOf t).cells.length cg) (gOf t).cells∧Below w.heap.size w w':=by
 refine (l3Of_any ac ar cc cr t (low_of hok hD) w hr).mono ?_
 rintro e w' ⟨vg,rfl,hO,hb⟩
 have hgk:=gOf_gok hD
 rw [gOf_ok hok] at hgk ⊢
 obtain ⟨ag,cg,rfl⟩:=own_slice hO
 exact ⟨ag,cg,rfl,hO.at hgk,hb⟩
theorem cellV_has {t:T} {C:Nat} {x:GC} (hx:Cel t C x) {l:List Int} (hb:UpB l 50000) (hl:l.length=C):cellV l t.gap x=hasV l t.gap x:=by
 obtain ⟨rn,jn,cn,mn,e1,e2,e3,e4,h1,h2,h3,h4,h5⟩:=hx.ex
 obtain ⟨o1,o2⟩:=own_span (l:=l) e3 e4 l.length (Nat.le_refl _)
 have hg:=hx.gap
 have hm:min l.length (cn+mn)=cn+mn:=by omega
 have hm2:min l.length cn=cn:=by omega
 have hm3:min mn (l.length - cn)=mn:=by omega
 rw [hm,hm2] at o2
 rw [hm3] at o1
 have hss:(subL l cn mn).sum=sumTo l (cn+mn) - sumTo l cn:=by
  unfold subL sumTo
  rw [List.take_add,List.sum_append]
  omega
 have hs:=sum_upB (fun y (hy:y ∈ subL l cn mn)=>hb.mem (subL_mem hy))
 rw [subL_len (by omega)] at hs
 have hgm:=gap_facts hg (m:=mn - 1) (by omega)
 rw [show ((mn - 1:Nat):Int)=(mn:Int) - 1 by omega] at hgm
 unfold cellV hasV
 rw [acrV_cons (by omega),o1,o2,e3,e4,Int.toNat_natCast,Int.toNat_natCast,hss]
 rw [hss] at hs
 exact W_small (by omega)
theorem wid_up {t:T} (hD:Drawn t) (hok:tblB t=true) {width:Int} (hw:0≤width∧width≤300):UpB (widL t width) 5000:=by
 obtain ⟨h1,h2,h3⟩:=wid_facts hD hok hw
 have hup:=leastL_up hD
 have hll:=leastL_len t
 obtain ⟨hC1,hC88,_,_,_,_⟩:=acr_least hD hok
 have hg:0≤t.gap∧t.gap≤3:=by
  simp only [tblB,inB,Bool.and_eq_true,decide_eq_true_eq] at hok
  exact hok.2.2.1
 have hgg:0≤t.gap * ((colN t:Int) - 1):=Int.mul_nonneg hg.1 (by omega)
 have hpos:∀ i,i < (widL t width).length→0≤(widL t width).getD i 0:=fun i hi=>by
  have a:=h3 i (by omega)
  have b:=hup i (by omega)
  omega
 intro i hi
 refine ⟨hpos i hi,?_⟩
 split at h2
 ·have hs:(widL t width).sum=(leastL t).sum:=by omega
  by_cases hlt:(leastL t).getD i 0 < (widL t width).getD i 0
  ·have:=sum_lt (a:=leastL t) (b:=widL t width) (by omega) (fun j hj=>(h3 j (by omega)).1) i (by omega) hlt
   omega
  ·have:=hup i (by omega)
   omega
 ·have:=sum_ge hpos hi
  omega
theorem widT_yes {t:T} {x:Int} (h:0 < (widT t x).length):tblB t=true∧(0≤x∧x≤300)∧widT t x=widL t x:=by
 unfold widT at h ⊢
 split at h
 ·rename_i hm
  rw [if_pos hm]
  rw [Bool.and_eq_true] at hm
  exact ⟨hm.1,by simpa [inB] using hm.2,rfl⟩
 ·simp at h
def tabV (t:T) (width:Int):Int:=acrV (widT t width) t.gap
theorem acr_wid {t:T} (hD:Drawn t) (hok:tblB t=true) {width:Int} (hw:0≤width∧width≤300) :
  widT t width=widL t width∧(widL t width).length=colN t∧tabV t width=(widL t width).sum+t.gap * ((colN t:Int) - 1)∧(widL t width).all wtB=true∧0≤(widL t width).sum∧(widL t width).sum≤1000000∧0≤t.gap * ((colN t:Int) - 1)∧t.gap * ((colN t:Int) - 1)≤1000 ∧
  tabV t width=(if width < acrV (leastL t) t.gap∨allFix t=true then acrV (leastL t) t.gap else width):=by
 obtain ⟨hC1,hC2,ea,_,_,_⟩:=acr_least hD hok
 obtain ⟨f1,f2,_⟩:=wid_facts hD hok hw
 have hup:=wid_up hD hok hw
 have hall:(widL t width).all wtB=true:=all_wt (fun i hi=>by have:=hup i hi;omega)
 have hs:=sum_bound hall
 have hsb:=sum_upB (l:=widL t width) (B:=5000) (fun x hx=>hup.mem hx)
 have hg:0≤t.gap∧t.gap≤3:=by
  simp only [tblB,inB,Bool.and_eq_true,decide_eq_true_eq] at hok
  exact hok.2.2.1
 have hg1:0≤t.gap * ((colN t:Int) - 1):=Int.mul_nonneg hg.1 (by omega)
 have hg2:t.gap * ((colN t:Int) - 1)≤3 * 87:=Int.mul_le_mul hg.2 (by omega) (by omega) (by omega)
 have e0:widT t width=widL t width:=by unfold widT;rw [if_pos (by rw [hok,inB_true hw.1 hw.2];rfl)]
 have e1:tabV t width=(widL t width).sum+t.gap * ((colN t:Int) - 1):=by
  unfold tabV
  rw [e0,acrV_cons (by omega),f1,W_small (by omega)]
 refine ⟨e0,f1,e1,hall,hs.1,by omega,hg1,by omega,?_⟩
 rw [e1,f2,ea]
def LnOk (st:List ByteArray × ByteArray):Prop:=st.2.size=0→st.1=[]
theorem lnOk_step (q:Int) (st:List ByteArray × ByteArray) (x:W30):LnOk (stepLn q st x.1):=by
 have hx:=x.2.1
 intro h0
 unfold stepLn at h0 ⊢
 by_cases h1:0 < st.2.size
 ·by_cases h2:q < (st.2.size:Int)+1+x.1.size
  ·rw [if_pos h1,if_pos h2] at h0;dsimp only at h0;omega
  ·rw [if_pos h1,if_neg h2] at h0;dsimp only at h0;rw [ByteArray.size_append] at h0;omega
 ·rw [if_neg h1] at h0;dsimp only at h0;omega
def lastLn (l:List ByteArray):ByteArray:=l.getD (l.length - 1) eS
def joinL:List ByteArray→ByteArray
 | []=>⟨#[]⟩
 | [x]=>x
 | x :: y :: r=>x ++ ⟨#[32]⟩ ++ joinL (y :: r)
theorem app_assoc (a b c:ByteArray):a ++ b ++ c=a ++ (b ++ c):=Go.WideShapes.bytes_inj (by simp)
theorem joinL_snoc:∀ (l:List ByteArray) (x:ByteArray),l ≠ []→joinL (l ++ [x])=joinL l ++ ⟨#[32]⟩ ++ x
 | [],_,h=>absurd rfl h
 | [_],_,_=>rfl
 | y :: z :: r,x,_=>by
  have ih:=joinL_snoc (z :: r) x (by simp)
  simp only [List.cons_append,joinL] at ih ⊢
  rw [ih]
  simp only [app_assoc]
theorem joinTo_take (ss:List ByteArray):∀ k,k≤ss.length→joinTo ss k=joinL (ss.take k)
 | 0,_=>by simp [joinTo,joinL]
 | k+1,h=>by
  have ih:=joinTo_take ss k (by omega)
  have hk:k < ss.length:=h
  rw [joinTo,List.take_succ_eq_append_getElem hk]
  have e:ss.getD k dS=ss[k]:=by simp [List.getD,hk]
  split
  ·rename_i h0
   subst h0
   simp [joinL,List.getD,hk]
  ·rename_i h0
   rw [ih,e,joinL_snoc _ _ (by intro hn;have h5:=congrArg List.length hn;rw [List.length_take,List.length_nil] at h5;omega)]
theorem extract_join {s:ByteArray} {i e:Nat} (h1:i≤e) (h2:e≤s.size):s.extract i e ++ s.extract e s.size=s.extract i s.size:=by
 exact (ByteArray.extract_eq_extract_append_extract e h1 h2).symm
theorem join_from {s:ByteArray} (hok:txtOkB s=true) (i:Nat) (hi:i < s.size) (hs:Start s i):joinL (wordsFrom s i)=s.extract i s.size:=by
 obtain ⟨h1,h2,h3,_⟩:=start_next hok hi hs
 obtain ⟨_,_,_,h4⟩:=wend_spec s i (by omega)
 rw [wordsFrom_go hi]
 by_cases he:wend s i < s.size
 ·have hb:=h4 he
  have hne:wend s i+1 < s.size:=by
   have hg:=((txtOkB_iff s).1 hok).2 _ he
   simp [goodB,hb] at hg
   omega
  have ih:=join_from hok (wend s i+1) hne h3
  rw [wordsFrom_go hne] at ih ⊢
  rw [joinL,ih]
  have hc:s[wend s i]=32:=by
   rw [ch_at he] at hb
   apply UInt8.toNat_inj.1
   have:s[wend s i].toNat=32:=by omega
   rw [this];rfl
  have e1:=extract_next (s:=s) (j:=i) (k:=wend s i) (by omega) he
  rw [hc] at e1
  rw [e1,extract_join (by omega) (by omega)]
 ·have e:wend s i=s.size:=by omega
  rw [wordsFrom_end (by omega),joinL,e]
termination_by s.size - i
theorem empty_of {s:ByteArray} (h:s.size=0):(⟨#[]⟩:ByteArray)=s:=Go.WideShapes.bytes_inj (by
 have:s.data.size=0:=h
 simp [Array.eq_empty_of_size_eq_zero this])
theorem extract_all (s:ByteArray):s.extract 0 s.size=s:=ByteArray.extract_zero_size
theorem join_words {s:ByteArray} (hok:txtOkB s=true):joinTo ((wordsW s).map (fun x=>x.1)) ((wordsW s).map (fun x=>x.1)).length=s:=by
 rw [words_val hok,joinTo_take _ _ (Nat.le_refl _),List.take_length]
 by_cases h:0 < s.size
 ·rw [join_from hok 0 h (start_zero hok),extract_all]
 ·rw [wordsFrom_end h,joinL];exact empty_of (by omega)
end Go.Proofs.YtggmjiddadjilaeGreat
