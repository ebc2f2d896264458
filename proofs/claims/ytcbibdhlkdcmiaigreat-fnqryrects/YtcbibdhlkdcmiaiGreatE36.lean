/-
  PROVED HERE: the model's l5Zero, l5Least and ColLeast at a drawn table: the list leastL, in memory of its own; nothing that was in memory is turned. Also: 6 more texts of the same proof.
-/
import Derived.Test.YtcbibdhlkdcmiaiGreatC33
import Derived.Test.YtcbibdhlkdcmiaiGreatC35
import Derived.Test.YtcbibdhlkdcmiaiGreatC30
import Derived.Test.YtcbibdhlkdcmiaiGreatC25
import Derived.Test.YtcbibdhlkdcmiaiGreatC21
import Derived.Test.YtcbibdhlkdcmiaiGreatC16
import Derived.Test.YtcbibdhlkdcmiaiGreatC34
import Derived.Test.YtcbibdhlkdcmiaiGreatC32
import Derived.Test.YtcbibdhlkdcmiaiGreatC29
import Derived.Test.YtcbibdhlkdcmiaiGreatC22
import Derived.Deep.DeepCutAuto
import Derived.Deep.RegionWith
import Derived.Deep.QuietTactic
import Derived.BigQuiet
namespace Go.Proofs.YtcbibdhlkdcmiaiGreat
open Go.RowKit Go.BigFrame
set_option maxRecDepth 100000 in
theorem specl5Zero (r:Int) (vg:Value) (C:Nat) (hC:C≤88) (w:World) :
  Calls Tryz.prog 123 #[.agg #[.int .i64 r,.int .i64 (C:Int),vg]] w fun e w'=>∃ v,e=.returned v∧RowI w' w.heap.size w'.heap.size v (zeroL C)∧Below w.heap.size w w':=by
 have hmk:=makeI C (by omega)
 have X0:=newestB w (.cells #[.int .i64 r,.int .i64 (C:Int),vg] 56)
 have x1:(w.alloc (.cells #[.int .i64 r,.int .i64 (C:Int),vg] 56)).cell? ⟨w.heap.size,1,none⟩=some (.int .i64 (C:Int)):=cellB X0
 clear X0
 go_enter Tryz.func123,Tryz.ntmps123
 go_wp2
 go_ret
 have R:=row_new (w.alloc (.cells #[.int .i64 r,.int .i64 (C:Int),vg] 56)) C (by omega)
 refine ⟨_,rfl,?_,k_alloc (k_alloc (Below.refl _ _) _) _⟩
 have R2:=R.base (B':=w.heap.size) (D':=w.heap.size+1+1) (by simp) (by simp)
 simpa [zeroL] using R2
def Ls (w:World) (z zg:Nat) (ac ar:Option Addr) (cc cr:Nat) (t:T) (ag:Option Addr) (cg:Nat) (W:World):Prop :=
 Below w.heap.size w W∧(ColsAt W z (.slice ac t.cols.length cc) t.cols∧RowsAt W z (.slice ar t.rows.length cr) t.rows)∧GsAt W zg (.slice ag (gOf t).cells.length cg) (gOf t).cells∧W.heap[w.heap.size]?=some (.cells #[.slice ac t.cols.length cc,.int .i64 t.head,.int .i64 t.foot,.slice ar t.rows.length cr,.int .i64 t.gap] 33)∧W.heap[w.heap.size+1]?=some (.cells #[.int .i64 (gOf t).rows,.int .i64 (gOf t).cols,.slice ag (gOf t).cells.length cg] 56)
theorem Ls.kept {w W W':World} {z zg:Nat} {ac ar ag:Option Addr} {cc cr cg:Nat} {t:T} (h:Ls w z zg ac ar cc cr t ag cg W) (hb:Below W.heap.size W W'):Ls w z zg ac ar cc cr t ag cg W' :=
 ⟨h.1.trans (hb.mono h.1.size),⟨h.2.1.1.kept hb,h.2.1.2.kept hb⟩,h.2.2.1.kept hb,(hb.block _ (bL h.2.2.2.1)).trans h.2.2.2.1,(hb.block _ (bL h.2.2.2.2)).trans h.2.2.2.2⟩
theorem threeO {w:World} {g:Nat} {x0 x1 x2:Value} {t:TypeId} (h:w.heap[g]?=some (.cells #[x0,x1,x2] t)) :
  w.cell? ⟨g,0,none⟩=some x0∧w.cell? ⟨g,1,none⟩=some x1∧w.cell? ⟨g,2,none⟩=some x2:=⟨cellB h,cellB h,cellB h⟩
set_option maxRecDepth 100000 in
set_option maxHeartbeats 1000000 in
theorem specl5Least (ac ar:Option Addr) (cc cr:Nat) (t:T) (hD:Drawn t) (ag:Option Addr) (cg:Nat) (w:World) {z zg:Nat} (hc:ColsAt w z (.slice ac t.cols.length cc) t.cols) (hr:RowsAt w z (.slice ar t.rows.length cr) t.rows) (hg:GsAt w zg (.slice ag (gOf t).cells.length cg) (gOf t).cells) (hok:tblB t=true) :
  Calls Tryz.prog 86 #[.agg #[.slice ac t.cols.length cc,.int .i64 t.head,.int .i64 t.foot,.slice ar t.rows.length cr,.int .i64 t.gap],.agg #[.int .i64 (gOf t).rows,.int .i64 (gOf t).cols,.slice ag (gOf t).cells.length cg]] w fun e w'=>∃ v,e=.returned v∧RowI w' w.heap.size w'.heap.size v (leastL t)∧Below w.heap.size w w':=by
 obtain ⟨_,C,hgc,hC,_⟩:=cel_of hD
 have hC1:1≤C:=by
  have h1:(gOf t).cols=colsOf (max 1 (t.cols.length:Int)) (gridOf t):=by rw [gOf_ok hok]
  have h2:=colsOf_ge (gridOf t) (max 1 (t.cols.length:Int))
  omega
 have HCN:=Hd (colN_of hgc)
 have HL:Hid (fixTo t.cols (needL t (leastP t)) C=leastL t):=by rw [Hid,leastL,HCN.out]
 have hNL:needTo (fun x=>((leastOf (wordsW (textOf t x)):Nat):Int)) t.gap (gOf t).cells (zeroL C) 4=needL t (leastP t):=by unfold needL;rw [HCN.out];rfl
 have hlen:=needL_len t (leastP t)
 rw [HCN.out] at hlen
 have HUp:=Hd (needL_up hD (fun x=>(leastP_le t x).2))
 have HSd:=Hd (fun k (hk:k < C)=>sd_small (t:=t) (k:=k) (by rw [HCN.out];exact hk))
 have hzl:(zeroL C).length=C:=by simp [zeroL]
 have hfl0:=field0
 have hfl1:=field1
 have hmx:Tryz.prog.follows .mixedOrders=true:=by kernel_rfl
 have KN:=Hd (fun W h1 h2 a0 c0 h3=>specl5Need_true ac ar cc cr t hD ag cg W (z:=z) (zg:=zg) h1 h2 C hgc hC1 a0 c0 h3)
 have KZ:=Hd (fun W=>specl5Zero (gOf t).rows (.slice ag (gOf t).cells.length cg) C hC W)
 rw [← hgc] at KZ
 rw [hNL] at KN
 generalize needL t (leastP t)=L at KN HL hlen HUp
 have HP:Hid (Ls w z zg ac ar cc cr t ag cg ((w.alloc (.cells #[.slice ac t.cols.length cc,.int .i64 t.head,.int .i64 t.foot,.slice ar t.rows.length cr,.int .i64 t.gap] 33)).alloc (.cells #[.int .i64 (gOf t).rows,.int .i64 (gOf t).cols,.slice ag (gOf t).cells.length cg] 56))):=by
  have K:=k_alloc (k_alloc (Below.refl w.heap.size w) (.cells #[.slice ac t.cols.length cc,.int .i64 t.head,.int .i64 t.foot,.slice ar t.rows.length cr,.int .i64 t.gap] 33)) (.cells #[.int .i64 (gOf t).rows,.int .i64 (gOf t).cols,.slice ag (gOf t).cells.length cg] 56)
  refine ⟨K,⟨hc.kept K,hr.kept K⟩,hg.kept K,(Below.heap_alloc _ _ _ (by simp)).trans (newestB _ _),?_⟩
  have:=newestB (w.alloc (.cells #[.slice ac t.cols.length cc,.int .i64 t.head,.int .i64 t.foot,.slice ar t.rows.length cr,.int .i64 t.gap] 33)) (.cells #[.int .i64 (gOf t).rows,.int .i64 (gOf t).cols,.slice ag (gOf t).cells.length cg] 56)
  simpa using this
 clear hNL hc hr hg hD hgc hok
 go_enter Tryz.func86,Tryz.ntmps86
 go_upto_region 1 with fail
 generalize (w.alloc (.cells #[.slice ac t.cols.length cc,.int .i64 t.head,.int .i64 t.foot,.slice ar t.rows.length cr,.int .i64 t.gap] 33)).alloc (.cells #[.int .i64 (gOf t).rows,.int .i64 (gOf t).cols,.slice ag (gOf t).cells.length cg] 56)=W0 at HP ⊢
 obtain ⟨b0,b1,b2,b3,b4⟩:=fiveO HP.out.2.2.2.1
 obtain ⟨q0,q1,q2⟩:=threeO HP.out.2.2.2.2
 have ht0:=(bL HP.out.2.2.2.1)
 have hg0:=(bL HP.out.2.2.2.2)
 go_cut [5] (fun s W=>∃ a c D,s=.slice a C c∧Hid (RowI W W0.heap.size D (.slice a C c) L)∧Hid (Below W0.heap.size W0 W)∧D≤W.heap.size)
 case first=>as_aux_lemma =>
  have HPd:=Hd (HP.out.kept (k_drew (Below.refl _ _)))
  have HBd:=Hd (k_drew (Below.refl W0.heap.size W0))
  go_region_with (first
   | (go_at_call 123;refine (KZ.out _).mono ?_;rintro e w1 ⟨v1,rfl,hr1,hb1⟩;obtain ⟨a1,c1,rfl⟩:=hr1.form;rw [hzl] at hr1 ⊢;have R1:=Hd hr1.at;have P1:=Hd (HPd.out.kept hb1);have B1:=Hd (k_trans HBd.out hb1);clear hr1 hb1;obtain ⟨p0,p1,p2,p3,p4⟩:=fiveO P1.out.2.2.2.1;obtain ⟨r0,r1,r2⟩:=threeO P1.out.2.2.2.2;have ht1:=(bL P1.out.2.2.2.1);have hg1:=(bL P1.out.2.2.2.2))
   | (go_at_call 122;refine (KN.out _ P1.out.2.1.2 P1.out.2.2.1 a1 c1 R1.out).mono ?_;rintro e w2 ⟨v2,rfl,hr2,hb2⟩;obtain ⟨a2,c2,rfl⟩:=hr2.form;rw [hlen] at hr2 ⊢;have R2:=Hd (hr2.base (B':=W0.heap.size) B1.out.size (Nat.le_refl _));have B2:=Hd (k_trans B1.out hb2);clear hr2 hb2))
  all_goals (go_wp2_with fail;go_meet;case rel=>exact ⟨_,_,_,rfl,R2,B2,Nat.le_refl _⟩)
 case rest =>
  obtain ⟨a2,c2,D,rfl,HR0,HB0,hD0⟩:=hcut
  clear b0 b1 b2 b3 b4 q0 q1 q2 hg0 KN KZ
  go_wp2_with fail
  go_loopw [6] (fun s W=>∃ k:Nat,s=.int .i64 k∧k≤C∧Hid (RowI W W0.heap.size D (.slice a2 C c2) (fixTo t.cols L k))∧Hid (Below W0.heap.size W0 W)∧D≤W.heap.size) (fun s _=>C - (intOf s).toNat)
  case atStart=>exact ⟨0,rfl,Nat.zero_le _,HR0,HB0,hD0⟩
  case round =>
   clear HR0 HB0 hD0
   obtain ⟨k,rfl,hk,HR,HB,hsz⟩:=hrel
   by_cases hlt:k < C
   case neg =>
    obtain rfl:k=C:=by omega
    have HF:=Hd (HR.out.base (B':=w.heap.size) (D':=wr.heap.size) HP.out.1.size hsz)
    have HK:=Hd (HP.out.kept HB.out).1
    go_wp2
    go_ret
    exact ⟨_,rfl,by rw [← HL.out];exact HF.out,HK.out⟩
   have HPr:=Hd (HP.out.kept HB.out)
   obtain ⟨b0,b1,b2,b3,b4⟩:=fiveO HPr.out.2.2.2.1
   have htr:=(bL HPr.out.2.2.2.1)
   have KS:=Hd (specl5Said ac ar cc cr t (k:Int) (by omega) wr HPr.out.2.1.1)
   obtain ⟨g,cap',e',hBg,hgD,hgw,hc1,hc2,hx,hf⟩:=HR.out.get (i:=k) (by rw [fixTo_len];omega)
   rw [fixTo_len,hlen] at e' hc1
   simp only [Value.slice.injEq,true_and] at e'
   obtain ⟨rfl,rfl⟩:=e'
   unfold maxLen at hc2
   have hxb:=HUp.out k (by omega)
   rw [fixTo_out t.cols L k (Nat.le_refl _)] at hx
   have hsd:=HSd.out k hlt
   have HYes:Hid ((sd t.cols k).1=1→fixTo t.cols L (k+1)=(fixTo t.cols L k).set k (max (L.getD k 0) (sd t.cols k).2)):=fun h=>by rw [fixTo,if_pos h,fixTo_out t.cols L k (Nat.le_refl _)]
   have HNo:Hid ((sd t.cols k).1 ≠ 1→fixTo t.cols L (k+1)=fixTo t.cols L k):=fun h=>by rw [fixTo,if_neg h]
   have KS3:=Hd (fun W h=>specl5Said ac ar cc cr t (k:Int) (by omega) W (z:=z) h)
   generalize sd t.cols k=p at KS KS3 hsd HYes HNo
   by_cases hp:p.1=1
   case neg =>
    have hpb:(p.1 == 1)=false:=by simpa using hp
    have HF:=Hd (HNo.out hp)
    clear HNo HYes hsd hp KS3
    go_wp2_with fail
    refine KS.out.mono ?_
    rintro e w3 ⟨rfl,hb3⟩
    have HK3:=Hd hb3
    clear hb3
    go_wp2
    go_roundw
    case rel=>exact ⟨k+1,by go_num,by omega,by rw [HF.out];exact HR.out.kept (fun j h0 _ _=>HK3.out.block j h0),k_trans HB.out HK3.out,Nat.le_trans hsz HK3.out.size⟩
    case measure=>simp [intOf];omega
   have HF:=Hd (HYes.out hp)
   have hq:=hsd hp
   clear HNo HYes hsd
   obtain ⟨p1,p2⟩:=p
   obtain rfl:p1=1:=hp
   have hq:0≤p2∧p2≤60:=hq
   dsimp only at KS HF KS3
   go_wp2_with fail
   refine KS.out.mono ?_
   rintro e W3 ⟨rfl,hb3⟩
   have HB3:=Hd (k_trans HB.out hb3)
   have HR3:=Hd (HR.out.kept (fun j h0 _ _=>hb3.block j h0))
   have HP3:=Hd (HPr.out.kept hb3)
   have hsz3:D≤W3.heap.size:=Nat.le_trans hsz hb3.size
   clear hb3 HR HB hx hf b0 b1 b2 b3 b4 htr KS hsz HPr
   go_upto_region 6 with fail
   obtain ⟨g3,cap3,e3,hBg3,hgD3,hgw3,_,_,hx3,hf3⟩:=HR3.out.get (i:=k) (by rw [fixTo_len];omega)
   rw [fixTo_len,hlen] at e3
   simp only [Value.slice.injEq,Option.some.injEq,Addr.mk.injEq,and_true,true_and] at e3
   have eg3:=e3.1
   clear e3
   subst eg3
   rw [fixTo_out t.cols L k (Nat.le_refl _)] at hx3
   have ht3:=(bL HP3.out.2.2.2.1)
   have hne:=bw_some W3
   have m0:=bw_cell (a:=⟨w.heap.size,0,none⟩) ht3 (cellB (p:=0) HP3.out.2.2.2.1)
   have m1:=bw_cell (a:=⟨w.heap.size,1,none⟩) ht3 (cellB (p:=1) HP3.out.2.2.2.1)
   have m2:=bw_cell (a:=⟨w.heap.size,2,none⟩) ht3 (cellB (p:=2) HP3.out.2.2.2.1)
   have m3:=bw_cell (a:=⟨w.heap.size,3,none⟩) ht3 (cellB (p:=3) HP3.out.2.2.2.1)
   have m4:=bw_cell (a:=⟨w.heap.size,4,none⟩) ht3 (cellB (p:=4) HP3.out.2.2.2.1)
   have m5:=bw_cell (a:=⟨g,k,none⟩) hgw3 hx3
   have HN:=Hd (fun W (h:Below W3.heap.size W3 W)=>(HR3.out.kept (fun j h0 _ _=>h.block j h0)).set (i:=k) (by rw [fixTo_len];omega) (max (L.getD k 0) p2))
   rw [← HF.out] at HN
   have HLk:Hid (k < (fixTo t.cols L k).length):=by rw [Hid,fixTo_len];omega
   generalize L.getD k 0=y at hxb hx3 m5 HN
   have KSq:=Hd (fun (p:BW W3)=>bw_of (KS3.out p.u (HP3.out.kept p.h).2.1.1))
   have KM:=Hd (fun (p:BW W3)=>bw_same (l1Max_any y p2 p.u))
   clear hx3 hf3 HF KS3
   refine wp_region_last 12 hmx (by rfl) (by rfl) (by kernel_rfl) (by kernel_rfl) ?_
   simp only [List.take_succ_cons,List.take_zero]
   repeat (go_big_quiet_step (first | (go_at_call 124;refine KSq.out _) | (go_at_call 83;refine KM.out _)))
   refine wpQuiet_nil ?_
   intro W5 hw'
   obtain ⟨⟨Wx,hW5⟩,hw''⟩:=hw'
   subst hw''
   have HN5:=Hd (HN.out _ hW5)
   have HB5:=Hd (k_set (k_trans HB3.out hW5) (p:=⟨g,k,none⟩) hBg (.int .i64 (max y p2)))
   have hf5:=(HR3.out.kept (fun j h0 _ _=>hW5.block j h0)).get (i:=k) HLk.out
   obtain ⟨g5,cap5,e5,_,_,hgw5,_,_,hx5,hf5⟩:=hf5
   simp only [Value.slice.injEq,Option.some.injEq,Addr.mk.injEq,and_true] at e5
   have eg:=e5.1
   clear e5
   subst eg
   have hsz5:D≤(W5.setCell ⟨g,k,none⟩ (.int .i64 (max y p2))).heap.size:=by rw [sizeSet];have:=hW5.size;omega
   clear m0 m1 m2 m3 m4 m5 HN HB3 HR3 hW5 hne KSq KM
   rw [if_pos (by rfl)]
   go_simp
   go_wp2
   go_roundw
   case rel=>exact ⟨k+1,by go_num,by omega,HN5,HB5,hsz5⟩
   case measure=>simp [intOf];omega
end Go.Proofs.YtcbibdhlkdcmiaiGreat
namespace Go.Proofs.YtcbibdhlkdcmiaiGreat
open Go.RowKit
theorem wid_up {t:T} (hD:Drawn t) (hok:tblB t=true) {width:Int} (hw:0≤width∧width≤300):UpB (widL t width) 5000:=by
 obtain ⟨h1,h2,h3⟩:=wid_facts hD hok hw
 have hup:=leastL_up hD
 have hll:=leastL_len t
 obtain ⟨hC1,hC88,_,_,_,_⟩:=acr_least hD hok
 have hg:0≤t.gap∧t.gap≤3:=by
  simp only [tblB,inB,Bool.and_eq_true,decide_eq_true_eq] at hok
  exact hok.2.2.1
 have hgg:0≤t.gap * ((colN t:Int) - 1):=Int.mul_nonneg hg.1 (by omega)
 have hpos:∀ i,i < (widL t width).length→0≤(widL t width).getD i 0:=fun i hi=>by
  have a:=h3 i (by omega)
  have b:=hup i (by omega)
  omega
 intro i hi
 refine ⟨hpos i hi,?_⟩
 split at h2
 ·have hs:(widL t width).sum=(leastL t).sum:=by omega
  by_cases hlt:(leastL t).getD i 0 < (widL t width).getD i 0
  ·have:=sum_lt (a:=leastL t) (b:=widL t width) (by omega) (fun j hj=>(h3 j (by omega)).1) i (by omega) hlt
   omega
  ·have:=hup i (by omega)
   omega
 ·have:=sum_ge hpos hi
  omega
def tabV (t:T) (width:Int):Int:=acrV (widT t width) t.gap
theorem acr_wid {t:T} (hD:Drawn t) (hok:tblB t=true) {width:Int} (hw:0≤width∧width≤300) :
  widT t width=widL t width∧(widL t width).length=colN t∧tabV t width=(widL t width).sum+t.gap * ((colN t:Int) - 1)∧(widL t width).all wtB=true∧0≤(widL t width).sum∧(widL t width).sum≤1000000∧0≤t.gap * ((colN t:Int) - 1)∧t.gap * ((colN t:Int) - 1)≤1000 ∧
  tabV t width=(if width < acrV (leastL t) t.gap∨allFix t=true then acrV (leastL t) t.gap else width):=by
 obtain ⟨hC1,hC2,ea,_,_,_⟩:=acr_least hD hok
 obtain ⟨f1,f2,_⟩:=wid_facts hD hok hw
 have hup:=wid_up hD hok hw
 have hall:(widL t width).all wtB=true:=all_wt (fun i hi=>by have:=hup i hi;omega)
 have hs:=sum_bound hall
 have hsb:=sum_upB (l:=widL t width) (B:=5000) (fun x hx=>hup.mem hx)
 have hg:0≤t.gap∧t.gap≤3:=by
  simp only [tblB,inB,Bool.and_eq_true,decide_eq_true_eq] at hok
  exact hok.2.2.1
 have hg1:0≤t.gap * ((colN t:Int) - 1):=Int.mul_nonneg hg.1 (by omega)
 have hg2:t.gap * ((colN t:Int) - 1)≤3 * 87:=Int.mul_le_mul hg.2 (by omega) (by omega) (by omega)
 have e0:widT t width=widL t width:=by unfold widT;rw [if_pos (by rw [hok,inB_true hw.1 hw.2];rfl)]
 have e1:tabV t width=(widL t width).sum+t.gap * ((colN t:Int) - 1):=by
  unfold tabV
  rw [e0,acrV_cons (by omega),f1,W_small (by omega)]
 refine ⟨e0,f1,e1,hall,hs.1,by omega,hg1,by omega,?_⟩
 rw [e1,f2,ea]
def rectOf (t:T) (cols rows:List Int) (x:GC):QR:=⟨atV cols t.gap x.col,atV rows 0 x.row,cellV cols t.gap x,highV rows x⟩
def rectsL (t:T) (cols rows:List Int) (gs:List GC):List QR:=gs.map (rectOf t cols rows)
def rectsT (t:T) (width:Int):List QR:=if (tblB t && inB width 0 300)=true then rectsL t (widL t width) (rowsOfT t (widL t width)) (gOf t).cells else []
theorem rectsL_len (t:T) (cols rows:List Int) (gs:List GC):(rectsL t cols rows gs).length=gs.length:=by simp [rectsL]
theorem rectsL_get (t:T) (cols rows:List Int) {gs:List GC} {k:Nat} (h:k < gs.length):(rectsL t cols rows gs).getD k dQ=rectOf t cols rows (gs.getD k dG):=by simp [rectsL,List.getD,h]
theorem rectsL_next (t:T) (cols rows:List Int) {gs:List GC} {k:Nat} (h:k < gs.length):(rectsL t cols rows gs).take (k+1)=(rectsL t cols rows gs).take k ++ [rectOf t cols rows (gs.getD k dG)]:=by
 rw [List.take_succ_eq_append_getElem (by rw [rectsL_len];exact h)]
 simp [rectsL,List.getD,h]
end Go.Proofs.YtcbibdhlkdcmiaiGreat
namespace Go.Proofs.YtcbibdhlkdcmiaiGreat
open Go.RowKit Go.BigFrame
theorem want1_no {t:T} {width:Int} {L:List Int} {i:Nat} (hi:i < (want1 t width L).length) (hP:kindP t 2 i=false):(want1 t width L).getD i 0=0:=by
 rw [want1_get (by rw [want1_len] at hi;exact hi),if_neg (by rw [hP];simp)]
theorem part_col {t:T} {j:Nat} (h:kindP t 2 j=true):j < t.cols.length∧sd t.cols j=t.cols.getD j (0,0):=by
 by_cases hj:j < t.cols.length
 ·exact ⟨hj,sd_yes hj⟩
 ·rw [kindP,sd_no (inB_false (by omega))] at h
  simp at h
set_option maxRecDepth 100000 in
set_option maxHeartbeats 1000000 in
theorem impltoParts (w0:World) (sb:Nat) (ac ar:Option Addr) (cc cr:Nat) (t:T) (width:Int) (g cap C D:Nat) (left:Int) (L:List Int) {z:Nat} (hc:ColsAt w0 z (.slice ac t.cols.length cc) t.cols) (hC:C≤88) (hCt:C=colN t) (hLC:L.length=C) (hLs:L.all wtB=true) (hg0:w0.heap.size≤g) (hgD:g < D) (hDs:D≤sb) (hw:0≤width∧width≤300) (hok:shrOkB left (want1 t width L)=true) (w:World) (h:SpS w0 sb ac ar cc cr t width g cap C D left L w) :
  Calls Tryz.prog 60 #[.pointer (some ⟨sb,0,none⟩)] w fun e w'=>e=.returned (.tuple #[])∧SpS w0 sb ac ar cc cr t width g cap C D (upToN left (want1 t width L)) (addL L (upToL left (want1 t width L))) w'∧Bk2 g sb w w':=by
 have hmx:Tryz.prog.follows .mixedOrders=true:=by kernel_rfl
 obtain ⟨ok1,len1,all1,sum1,give1⟩:=step_lists (P:=kindP t 2) (want1_len t width L) hok (fun i hi hP=>want1_no hi hP)
 rw [hLC] at ok1 len1 all1 sum1 give1
 have HTl:=Hd (selL_len (want1 t width L) (kindP t 2) C)
 have HTg:=Hd (fun k (hk:k < (selN (kindP t 2) C).length)=>selL_get (l:=want1 t width L) hk)
 have HW:=Hd (fun j (hj:j < C) (hP:kindP t 2 j=true)=>(want1_get (t:=t) (width:=width) (l:=L) (k:=j) (by omega)).trans (if_pos hP))
 have HKd:=Hd (fun j (hj:j < C)=>sd_kind (t:=t) (k:=j) (by omega))
 have HLt:=Hd (fun k (hk:k < (selN (kindP t 2) C).length)=>selN_lt hk)
 have hnl:=selN_le (kindP t 2) C
 have HC:=Hd hc
 have H:=Hd h
 have KO:=Hd (implofKind sb ac ar cc cr t width g cap C left 2 hC w h.sp (hc.kept h.bel))
 have hmk:=makeI (selN (kindP t 2) C).length (by omega)
 have HG1:=Hd give1
 have HSum:=Hd sum1
 have HA1:=Hd all1
 have HLn:=Hd len1
 have hleft:=(shrOk_parts hok).1
 have HOk:=Hd ok1
 generalize selN (kindP t 2) C=js at *
 generalize hT:selL (want1 t width L) (kindP t 2) C=T at *
 clear h hc give1 sum1 all1 len1 ok1 hok hT
 have hTl:=HTl.out
 go_enter Tryz.func60,Tryz.ntmps60
 go_wp2_with fail
 refine KO.out.mono ?_
 rintro e w1 ⟨v1,rfl,hr1,hb1⟩
 obtain ⟨a1,c1,rfl⟩:=hr1.form
 rw [natL_len] at hr1 ⊢
 have HR1:=Hd hr1
 have HS1:=Hd (H.out.kept hb1)
 have HB1:=Hd hb1
 have hz1:=hb1.size
 clear hr1 hb1 KO
 have hn2:(w1.alloc (.cells (newI js.length) 3)).heap.size=w1.heap.size+1:=by simp
 have HN:=Hd (row_new w1 js.length (by omega))
 have hA2:=k_alloc (Below.refl w1.heap.size w1) (.cells (newI js.length) 3)
 go_upto_region 2 with fail
 have HS2:=Hd (HS1.out.kept hA2)
 have HR2:=Hd (HR1.out.kept (w':=w1.alloc (.cells (newI js.length) 3)) (fun j h0 _ _=>hA2.block j h0))
 have HB2:=Hd (k_trans HB1.out hA2)
 have hD2:D≤w1.heap.size:=by have:=HS1.out.sp.lt;omega
 have hsb1:sb < w1.heap.size:=HS1.out.sp.lt
 have hsbw:sb < w.heap.size:=H.out.sp.lt
 have hw0:w0.heap.size≤w1.heap.size:=HS1.out.bel.size
 clear HS1 HR1 HB1 hA2 H
 generalize w1.alloc (.cells (newI js.length) 3)=W2 at HN HS2 HR2 HB2 hn2 ⊢
 generalize w1.heap.size=gb at HN HR2 hn2 hD2 hsb1 hz1 hw0 ⊢
 go_wp2_with fail
 go_loopw [16] (fun s W=>∃ k:Nat,s=.int .i64 k∧k≤js.length∧Hid (RowI W gb (gb+1) (.slice (some ⟨gb,0,none⟩) js.length js.length) (fillL T k))∧Hid (Bk gb W2 W)) (fun s _=>js.length - (intOf s).toNat)
 case atStart=>exact ⟨0,rfl,Nat.zero_le _,by rw [fillL_zero,hTl];exact HN,Bk.refl _ _⟩
 case round =>
  clear HN
  obtain ⟨k,rfl,hk,HF,HB⟩:=hrel
  have HS:=Hd (HS2.out.bk HB.out hw0 (by omega) hD2)
  have HR:=Hd (HR2.out.kept (fun j h0 _ h2=>HB.out.block j h0 (by omega)))
  by_cases hlt:k < js.length
  case pos =>
   obtain ⟨b1,c1',e1,hb1B,_,hb1w,hc11,hc12,hx1,_⟩:=HR.out.get (i:=k) (by rw [natL_len];exact hlt)
   rw [natL_len] at e1 hc11
   rw [natL_get hlt] at hx1
   simp only [Value.slice.injEq,true_and] at e1
   obtain ⟨rfl,rfl⟩:=e1
   obtain ⟨hjC,hjP⟩:=HLt.out k hlt
   have hTk:=HTg.out k hlt
   have hjj:js[k]=js.getD k 0:=by simp [List.getD,hlt]
   rw [hjj] at hTk
   rw [HW.out _ hjC hjP] at hTk
   obtain ⟨hjc,hsd⟩:=part_col hjP
   have hkd:=HKd.out _ hjC
   have hk2:(sd t.cols (js.getD k 0:Nat)).1=2:=by simpa [kindP] using hjP
   rw [hsd] at hTk hkd hk2
   obtain ⟨b,off,cap2,e2,hc21,hc22,hbl,hy0,hy1⟩:=At.get (HC.out.kept HS.out.bel) hjc
   simp only [Value.slice.injEq,true_and] at e2
   obtain ⟨rfl,rfl⟩:=e2
   obtain ⟨g',cap',e3,_,_,hgw,hc31,hc32,hx3,_⟩:=HS.out.row.get (i:=js.getD k 0) (by omega)
   rw [hLC] at e3 hc31
   simp only [Value.slice.injEq,Option.some.injEq,Addr.mk.injEq,and_true,true_and] at e3
   obtain ⟨rfl,rfl⟩:=e3
   have hxs:=getD_small hLs (js.getD k 0)
   generalize js.getD k 0=j at *
   generalize t.cols.getD j (0,0)=p at *
   generalize L.getD j 0=x at *
   have hp2:1≤p.2∧p.2≤100:=by omega
   have hm0:0≤width * p.2:=Int.mul_nonneg hw.1 (by omega)
   have hm1:width * p.2≤30000:=Int.le_trans (Int.mul_le_mul hw.2 hp2.2 (by omega) (by omega)) (by omega)
   have hq:Int.tdiv (width * p.2) 100=width * p.2 / 100:=Int.tdiv_eq_ediv_of_nonneg hm0
   unfold maxLen at hc12 hc22 hc32
   have HFx:=Hd (fillL_succ (l:=T) (k:=k) (by omega))
   rw [hTk] at HFx
   have hne:=bw_some wr
   have m0:=bw_cell (a:=⟨sb,5,none⟩) HS.out.sp.lt (cellB (p:=5) HS.out.sp)
   have m1:=bw_cell (a:=⟨sb,0,none⟩) HS.out.sp.lt (cellB (p:=0) HS.out.sp)
   have m2:=bw_cell hbl hy1
   have HX:=Hd (And.intro hgw hx3)
   clear hy0 hy1 hx3 hTk hsd hkd hk2 hjP
   go_upto_region 5 with fail
   clear hx1
   refine wp_region_quiet_below hmx (by kernel_rfl) ?_
   repeat (go_big_quiet_step (fail))
   refine wpQuiet_nil ?_
   intro W5 hw'
   obtain ⟨⟨Wx,hW5⟩,hw''⟩:=hw'
   subst hw''
   have s6:W5.cell? ⟨sb,6,none⟩=some (.slice (some ⟨g,0,none⟩) C cap):=cellB (p:=6) (HS.out.sp.kept hW5)
   have gx:W5.cell? ⟨g,j,none⟩=some (.int .i64 x):=(hW5.cell (p:=⟨g,j,none⟩) HX.out.1).trans HX.out.2
   have HF5:=Hd (HF.out.kept (fun i h0 _ _=>hW5.block i h0))
   have HB5:=Hd (HB.out.trans (Bk.of_below hW5))
   obtain ⟨g5,cap5,e5,_,_,hgw5,_,_,hx5,hf5⟩:=HF5.out.get (i:=k) (by rw [fillL_len T (by omega)];omega)
   simp only [Value.slice.injEq,Option.some.injEq,Addr.mk.injEq,and_true] at e5
   have eg:=e5.1
   clear e5
   subst eg
   have HF6:=Hd (HF5.out.set (i:=k) (by rw [fillL_len T (by omega)];omega) (max 0 (width * p.2 / 100 - x)))
   rw [← HFx.out] at HF6
   have hyb:0≤width * p.2 / 100∧width * p.2 / 100≤300:=by omega
   generalize width * p.2 / 100=y at *
   clear m0 m1 m2 hne hW5 HX HF HB HF5 HFx
   go_wp2
   go_roundw
   case rel=>exact ⟨k+1,by go_num,by omega,HF6,HB5.out.set (p:=⟨gb,k,none⟩) (.inl rfl) _⟩
   case measure=>simp [intOf];omega
  case neg =>
   obtain rfl:k=js.length:=by omega
   have s7:wr.cell? ⟨sb,7,none⟩=some (.int .i64 left):=cellB (p:=7) HS.out.sp
   have HF':Hid (RowI wr gb (gb+1) (.slice (some ⟨gb,0,none⟩) js.length js.length) T):=by rw [← fillL_all T,hTl];exact HF
   have KU:=Hd (shareUpTo_any left _ T HOk.out wr HF'.out.at)
   go_wp2_with fail
   refine KU.out.mono ?_
   rintro e w5 ⟨v5,rfl,hr5,hb5⟩
   obtain ⟨a5,c5,rfl⟩:=hr5.form
   have hz5:=hb5.size
   have hzr:=HB.out.size
   have KG:=Hd (implgive sb ac ar cc cr t width g cap C left L (upToL left T) js (.slice a1 js.length c1) (.slice a5 (upToL left T).length c5) w0.heap.size D w.heap.size hLC (fun k hk=>(HLt.out k hk).1) (by omega) HLn.out hLs HA1.out hleft hgD hDs hsbw w5 (HS.out.kept hb5).sp (HS.out.kept hb5).row ((HR.out.kept (fun j h0 _ _=>hb5.block j h0)).base (Nat.le_refl _) (by omega)) (hr5.base (by omega) (Nat.le_refl _)))
   have HB6:=Hd ((HB2.out.trans (HB.out.below (n:=w.heap.size) (by omega) (by omega))).trans (hb5.mono (by omega)))
   have HL6:=Hd ((HS.out.kept hb5).bel)
   clear KU s7
   go_wp2_with fail
   refine KG.out.mono ?_
   rintro e w6 ⟨rfl,hs6,hr6,hb6⟩
   have HF6:=Hd (SpS.mk (HL6.out.trans (hb6.below HL6.out.size hg0 (by omega))) hs6 hr6)
   rw [HSum.out,HG1.out] at HF6
   have HK6:=Hd ((Bk2.of_below HB6.out).trans hb6)
   clear hs6 hr6 hb6
   go_wp2
   go_end0
   exact ⟨rfl,HF6.out,HK6.out⟩
set_option maxRecDepth 100000 in
set_option maxHeartbeats 1000000 in
theorem wideEnough_TxtLeast (nd:ByteArray→Int) (hnd:∀ s,0≤nd s∧nd s≤30) (KN:∀ (s:ByteArray) (W:World),s.size≤maxLen→Calls Tryz.prog 108 #[.string s] W fun e w'=>e=.returned (.int .i64 (nd s))∧Below W.heap.size W w')
  (ac ar:Option Addr) (cc cr:Nat) (t:T) (hD:Drawn t) (w:World) {z:Nat} (hc:ColsAt w z (.slice ac t.cols.length cc) t.cols) (hr:RowsAt w z (.slice ar t.rows.length cr) t.rows) (C:Nat) (hgc:(gOf t).cols=C) :
  Calls Tryz.prog 107 #[.agg #[.slice ac t.cols.length cc,.int .i64 t.head,.int .i64 t.foot,.slice ar t.rows.length cr,.int .i64 t.gap],.func (.func 108) #[] #[]] w fun e w'=>∃ v,e=.returned v∧RowI w' w.heap.size w'.heap.size v (needTo (fun x=>nd (textOf t x)) t.gap (gOf t).cells (zeroL C) 4)∧Below w.heap.size w w':=by
 obtain ⟨h40,C',hgc',hC88,hcel⟩:=cel_of hD
 obtain rfl:C'=C:=by rw [hgc'] at hgc;omega
 have K0:=k_alloc (Below.refl w.heap.size w) (.cells #[.slice ac t.cols.length cc,.int .i64 t.head,.int .i64 t.foot,.slice ar t.rows.length cr,.int .i64 t.gap] 33)
 have HN:=Hd KN
 have HCel:=Hd hcel
 have HDr:=Hd hD
 have HGC:=Hd hgc'
 have hup:=need_up (p:=fun x=>nd (textOf t x)) (l:=zeroL C') hcel h40 (by simp [zeroL]) (fun x=>(hnd _).2) (zero_up _)
 have HUp:=Hd hup
 have hps:=fun s hs=>pass_up (p:=fun x=>nd (textOf t x)) (s:=((s+1:Nat):Int)) (l:=needTo (fun x=>nd (textOf t x)) t.gap (gOf t).cells (zeroL C') s) hcel (by rw [needTo_len];simp [zeroL]) (fun x=>(hnd _).2) (hup s hs)
 have HPs:=Hd hps
 have HT:=Hd (And.intro (hc.kept K0) (hr.kept K0))
 have HX:=Hd (newestB w (.cells #[.slice ac t.cols.length cc,.int .i64 t.head,.int .i64 t.foot,.slice ar t.rows.length cr,.int .i64 t.gap] 33))
 have HK:=Hd K0
 have hmk:=makeI C' (by omega)
 have hmx:Tryz.prog.follows .mixedOrders=true:=by kernel_rfl
 clear hcel hD hup hps hc hr K0 KN hgc' hgc
 go_enter Tryz.func107,Tryz.ntmps107
 go_wp2_with fail
 refine (implGrdOf ac ar cc cr t HDr.out _ HT.out.1 HT.out.2).mono ?_
 rintro e w2 ⟨vg,rfl,hO2,hb2⟩
 obtain ⟨ag,cg,rfl⟩:=own_slice hO2
 have hG2:=hO2.at (gOf_gok HDr.out)
 have HW:Hid (Ws w z w2.heap.size ac ar cc cr t ag cg (w2.alloc (.cells #[.int .i64 (gOf t).rows,.int .i64 (gOf t).cols,.slice ag (gOf t).cells.length cg] 56))) :=
  ⟨k_alloc (k_trans HK.out hb2) _,⟨(HT.out.1.kept hb2).kept (k_alloc (Below.refl _ _) _),(HT.out.2.kept hb2).kept (k_alloc (Below.refl _ _) _)⟩,(Below.heap_alloc _ _ _ (Nat.lt_of_lt_of_le (by simp) hb2.size)).trans ((hb2.block w.heap.size (by simp)).trans HX.out),(hG2.base (by simp)).kept (k_alloc (Below.refl _ _) _),newestB _ _⟩
 have hz2:w.heap.size < w2.heap.size:=Nat.lt_of_lt_of_le (by simp) hb2.size
 clear hO2 hb2 hG2 HT HX HK
 go_upto_region 2 with fail
 generalize hW3:w2.alloc (.cells #[.int .i64 (gOf t).rows,.int .i64 (gOf t).cols,.slice ag (gOf t).cells.length cg] 56)=W3 at HW ⊢
 have hz3:W3.heap.size=w2.heap.size+1:=by rw [← hW3];simp
 clear hW3
 obtain ⟨y0,y1,y2,y3⟩:=HW.out.at
 rw [HGC.out] at y2
 go_wp2_with fail
 clear hmk y0 y1 y2 y3
 have S0:Hid (RowI (W3.alloc (.cells (newI C') 3)) (w2.heap.size+1) (w2.heap.size+2) (.slice (some ⟨w2.heap.size+1,0,none⟩) C' C') (zeroL C')):=by have h:=row_new W3 C' (by omega);rw [hz3] at h;exact h
 go_loopw [7] (fun s W=>∃ m:Nat,s=.int .i64 ((m:Int)+1)∧m≤4∧Hid (RowI W (w2.heap.size+1) (w2.heap.size+2) (.slice (some ⟨w2.heap.size+1,0,none⟩) C' C') (needTo (fun x=>nd (textOf t x)) t.gap (gOf t).cells (zeroL C') m))∧Hid (Below W3.heap.size W3 W)∧W3.heap.size < W.heap.size) (fun s _=>5 - (intOf s).toNat)
 case atStart=>exact ⟨0,rfl,by omega,S0,k_alloc (Below.refl _ _) _,by simp⟩
 case round =>
  clear S0
  obtain ⟨m,rfl,hm,HR,HB,hsz⟩:=hrel
  by_cases hlt:m < 4
  case neg =>
   obtain rfl:m=4:=by omega
   have hK:=Hd (HW.out.1.trans (HB.out.mono (by omega)))
   have HF:=Hd (HR.out.base (B':=w.heap.size) (D':=wr.heap.size) (by omega) (by omega))
   go_wp2
   go_ret
   exact ⟨_,rfl,HF.out,hK.out⟩
  have HWr:=Hd (HW.out.kept HB.out)
  obtain ⟨y0,y1,y2,y3⟩:=HWr.out.at
  rw [HGC.out] at y2
  go_wp2_with fail
  clear y0 y1 y2 y3 HWr
  have HUm:=Hd (HPs.out m (by omega) (by omega))
  rw [show decide ((m:Int)+1≤4)=true by simp;omega]
  go_loopw [22] (fun s W=>∃ k:Nat,s=.int .i64 k∧k≤(gOf t).cells.length∧Hid (RowI W (w2.heap.size+1) (w2.heap.size+2) (.slice (some ⟨w2.heap.size+1,0,none⟩) C' C') (passTo (fun x=>nd (textOf t x)) t.gap ((m+1:Nat):Int) (gOf t).cells (needTo (fun x=>nd (textOf t x)) t.gap (gOf t).cells (zeroL C') m) k))∧Hid (Below W3.heap.size W3 W)∧W3.heap.size < W.heap.size) (fun s _=>(gOf t).cells.length - (intOf s).toNat)
  case atStart=>exact ⟨0,rfl,Nat.zero_le _,HR,HB,hsz⟩
  case round =>
   clear HR HB hsz
   obtain ⟨k,rfl,hk,HR,HB,hsz⟩:=hrel
   by_cases hkl:k < (gOf t).cells.length
   case neg =>
    obtain rfl:k=(gOf t).cells.length:=by omega
    go_wp2
    go_roundw
    case rel=>exact ⟨m+1,by go_num,by omega,HR,HB,hsz⟩
    case measure=>simp [intOf];omega
   have HWr:=Hd (HW.out.kept HB.out)
   obtain ⟨b,off,cap',e',hc1,hc2,hbl,hx,_⟩:=At.get HWr.out.2.2.2.1 hkl
   simp only [Value.slice.injEq,true_and] at e'
   obtain ⟨rfl,rfl⟩:=e'
   unfold maxLen at hc2
   have HCe:=Hd (HCel.out k hkl)
   obtain ⟨⟨rn,jn,cn,mn,e1,e2,e3,e4,h1,h2,h3,h4,h5⟩,hgp,hrs⟩:=HCel.out k hkl
   have HSz:Hid ((textOf t ((gOf t).cells.getD k dG)).size≤maxLen):=text_size HCe.out HWr.out.2.1.2
   have hub:=HUm.out k hk
   have HNo:Hid ((mn:Int) ≠ ((m+1:Nat):Int)→passTo (fun x=>nd (textOf t x)) t.gap ((m+1:Nat):Int) (gOf t).cells (needTo (fun x=>nd (textOf t x)) t.gap (gOf t).cells (zeroL C') m) (k+1)=passTo (fun x=>nd (textOf t x)) t.gap ((m+1:Nat):Int) (gOf t).cells (needTo (fun x=>nd (textOf t x)) t.gap (gOf t).cells (zeroL C') m) k):=fun h=>by rw [passTo,if_neg (by rw [e4];exact h)]
   have HYes:Hid ((mn:Int)=((m+1:Nat):Int)→passTo (fun x=>nd (textOf t x)) t.gap ((m+1:Nat):Int) (gOf t).cells (needTo (fun x=>nd (textOf t x)) t.gap (gOf t).cells (zeroL C') m) (k+1)=wideL (passTo (fun x=>nd (textOf t x)) t.gap ((m+1:Nat):Int) (gOf t).cells (needTo (fun x=>nd (textOf t x)) t.gap (gOf t).cells (zeroL C') m) k) cn mn t.gap (nd (textOf t ((gOf t).cells.getD k dG)))):=fun h=>by rw [passTo,if_pos (by rw [e4];exact h),e3,e4,Int.toNat_natCast,Int.toNat_natCast]
   have hpl:=passTo_len (fun x=>nd (textOf t x)) t.gap ((m+1:Nat):Int) (gOf t).cells (needTo (fun x=>nd (textOf t x)) t.gap (gOf t).cells (zeroL C') m) k
   rw [needTo_len,show (zeroL C').length=C' by simp [zeroL]] at hpl
   generalize (gOf t).cells.getD k dG=x at hx e1 e2 e3 e4 HYes hrs HCe HSz
   generalize hL:passTo (fun x=>nd (textOf t x)) t.gap ((m+1:Nat):Int) (gOf t).cells (needTo (fun x=>nd (textOf t x)) t.gap (gOf t).cells (zeroL C') m) k=L at HR HNo HYes hub hpl
   clear hL
   have HKT:=Hd (fun (W:World) (hR:RowsAt W z (.slice ar t.rows.length cr) t.rows)=>impltextOf ac ar cc cr t x HCe.out W hR)
   simp only [e1,e2,e3,e4] at HKT
   obtain ⟨x0,x1,x2,x3,x4⟩:=hx
   rw [e1] at x0
   rw [e2] at x4
   rw [e3] at x1
   rw [e4] at x3
   by_cases hms:(mn:Int)=(m:Int)+1
   case neg =>
    have hmb:((mn:Int) == (m:Int)+1)=false:=by simpa using hms
    have HL:=Hd (HNo.out (by omega))
    clear HNo HYes e1 e2 e3 e4 hms
    go_wp2
    go_roundw
    case rel=>exact ⟨k+1,by go_num,by omega,by rw [HL.out];exact HR.out.kept (fun j h0 _ _=>Below.heap_alloc _ _ _ h0),k_alloc HB.out _,by simp;omega⟩
    case measure=>simp [intOf];omega
   obtain rfl:mn=m+1:=by omega
   have HL:=Hd (HYes.out rfl)
   have hmb:((m:Int)+1 == (m:Int)+1)=true:=by simp
   have hcast:((m+1:Nat):Int)=(m:Int)+1:=by omega
   rw [hcast] at x3
   simp only [hcast] at HKT
   clear hcast
   clear HNo HYes e1 e2 e3 e4 hms
   go_upto_region 10 with fail
   have HW4:Hid (Ws w z w2.heap.size ac ar cc cr t (some ⟨b,off,none⟩) cg (wr.alloc (.cells #[.int .i64 (rn:Int),.int .i64 (cn:Int),.int .i64 x.rows,.int .i64 ((m:Int)+1),.int .i64 (jn:Int)] 59))):=HWr.out.kept (k_alloc (Below.refl _ _) _)
   have HB4:=Hd (k_alloc HB.out (.cells #[.int .i64 (rn:Int),.int .i64 (cn:Int),.int .i64 x.rows,.int .i64 ((m:Int)+1),.int .i64 (jn:Int)] 59))
   have HR4:=Hd (HR.out.kept (fun j h0 _ _=>Below.heap_alloc wr (.cells #[.int .i64 (rn:Int),.int .i64 (cn:Int),.int .i64 x.rows,.int .i64 ((m:Int)+1),.int .i64 (jn:Int)] 59) j h0))
   have HX4:=Hd (newestB wr (.cells #[.int .i64 (rn:Int),.int .i64 (cn:Int),.int .i64 x.rows,.int .i64 ((m:Int)+1),.int .i64 (jn:Int)] 59))
   have hsz4:W3.heap.size < (wr.alloc (.cells #[.int .i64 (rn:Int),.int .i64 (cn:Int),.int .i64 x.rows,.int .i64 ((m:Int)+1),.int .i64 (jn:Int)] 59)).heap.size:=by simp;omega
   generalize wr.alloc (.cells #[.int .i64 (rn:Int),.int .i64 (cn:Int),.int .i64 x.rows,.int .i64 ((m:Int)+1),.int .i64 (jn:Int)] 59)=W4 at HW4 HB4 HR4 HX4 hsz4 ⊢
   generalize wr.heap.size=cb at HX4 ⊢
   clear HWr HR HB hsz x0 x1 x2 x3 x4 hbl
   have q1:W4.cell? ⟨cb,1,none⟩=some (.int .i64 (cn:Int)):=cellB HX4.out
   have hcb:cb < W4.heap.size:=(bL HX4.out)
   have htb:w.heap.size < W4.heap.size:=(bL HW4.out.2.2.1)
   obtain ⟨y0,y1,y2,y3⟩:=HW4.out.at
   obtain ⟨t3,t4,t5,t6,t10,t11,t12,t13⟩:=slice_facts h3 hC88
   have hne:=bw_some W4
   have g0:=bw_cell (a:=⟨cb,0,none⟩) hcb (cellB (p:=0) HX4.out)
   have g1:=bw_cell (a:=⟨cb,1,none⟩) hcb (cellB (p:=1) HX4.out)
   have g2:=bw_cell (a:=⟨cb,2,none⟩) hcb (cellB (p:=2) HX4.out)
   have g3:=bw_cell (a:=⟨cb,3,none⟩) hcb (cellB (p:=3) HX4.out)
   have g4:=bw_cell (a:=⟨cb,4,none⟩) hcb (cellB (p:=4) HX4.out)
   have b0:=bw_cell (a:=⟨w.heap.size,0,none⟩) htb (cellB (p:=0) HW4.out.2.2.1)
   have b1:=bw_cell (a:=⟨w.heap.size,1,none⟩) htb (cellB (p:=1) HW4.out.2.2.1)
   have b2:=bw_cell (a:=⟨w.heap.size,2,none⟩) htb (cellB (p:=2) HW4.out.2.2.1)
   have b3:=bw_cell (a:=⟨w.heap.size,3,none⟩) htb (cellB (p:=3) HW4.out.2.2.1)
   have b4:=bw_cell (a:=⟨w.heap.size,4,none⟩) htb (cellB (p:=4) HW4.out.2.2.1)
   have KT:=Hd (fun (p:BW W4)=>bw_of ((HKT.out p.u (HW4.out.kept p.h).2.1.2).mono (fun _ _ ⟨h1,_,h2⟩=>And.intro h1 h2)))
   have KND:=Hd (fun (p:BW W4)=>bw_of (HN.out (textOf t x) p.u HSz.out))
   have KW:=Hd (fun W=>widen_any (w2.heap.size+1) (w2.heap.size+2) (w2.heap.size+1) C' C' L (fun i hi=>by have:=hub i hi;omega) cn (m+1) (by rw [hpl];exact h3) ⟨h4,h5⟩ t.gap (nd (textOf t x)) hgp (hnd (textOf t x)) W)
   clear y0 y1 y2 y3 q1
   refine wp_region_last 15 hmx (by rfl) (by rfl) (by kernel_rfl) (by kernel_rfl) ?_
   simp only [List.take_succ_cons,List.take_zero]
   repeat (go_big_quiet_step (first | (go_at_call 102;refine KT.out _) | (go_at_call 108;refine KND.out _)))
   refine wpQuiet_nil ?_
   intro W5 hw'
   obtain ⟨⟨Wx,hW5⟩,hw''⟩:=hw'
   subst hw''
   have HB5:=Hd (HB4.out.trans (hW5.mono (Nat.le_of_lt hsz4)))
   have HR5:=Hd (HR4.out.kept (fun j h0 _ _=>hW5.block j h0))
   have hsz5:W3.heap.size < W5.heap.size:=Nat.lt_of_lt_of_le hsz4 hW5.size
   clear g0 g1 g2 g3 g4 b0 b1 b2 b3 b4 KT KND HKT HW4 HB4 HR4 HX4 hsz4 hW5 hne
   rw [if_pos (by rfl)]
   go_simp
   go_wp2_with (go_at_call 137;refine (KW.out W5 HR5.out (by omega)).mono ?_;rintro e w7 ⟨rfl,hr7,hk7⟩;have HR7:=Hd hr7;have HB7:=Hd (HB5.out.trans (hk7.below (Nat.le_of_lt hsz5) (by omega)));have hsz7:W3.heap.size < w7.heap.size:=Nat.lt_of_lt_of_le hsz5 hk7.size;clear hr7 hk7)
   go_roundw
   case rel=>exact ⟨k+1,by go_num,by omega,by rw [HL.out];exact HR7.out,HB7,hsz7⟩
   case measure=>simp [intOf];omega
end Go.Proofs.YtcbibdhlkdcmiaiGreat
