/-
  PROVED HERE: the program's WidCols at a drawn table and any width: the list widT, in memory of its own; nothing that was in memory is turned. Also: 1 more texts of the same proof.
-/
import Derived.Test.YtojogjlblgcioanGreatC35
import Derived.Test.YtojogjlblgcioanGreatC34
import Derived.Test.YtojogjlblgcioanGreatC37
import Derived.Test.YtojogjlblgcioanGreatC38
import Derived.Test.YtojogjlblgcioanGreatC31
import Derived.Test.YtojogjlblgcioanGreatC32
import Derived.Test.YtojogjlblgcioanGreatC25
import Derived.Test.YtojogjlblgcioanGreatC23
import Derived.Test.YtojogjlblgcioanGreatC17
import Derived.Test.YtojogjlblgcioanGreatC36
import Derived.Test.YtojogjlblgcioanGreatC11
import Derived.Deep.DeepCutAuto
import Derived.Deep.RegionWith
import Derived.Deep.QuietTactic
import Derived.BigQuiet
namespace Go.Proofs.YtojogjlblgcioanGreat
open Go.RowKit Go.BigFrame
def CondW (t:T) (width:Int) (k:Nat) (left:Int) (L:List Int):Prop :=
 (k=0∧L=leastL t∧left=restV t width) ∨
 (k=1∧(0 < restV t width∧L=out1 t width∧left=left1 t width∨left≤0∧L=widL t width)) ∨
 (k=2∧(0 < restV t width∧L=out2 t width∧left=left2 t width∨left≤0∧L=widL t width)) ∨
 (k=3∧L=widL t width)
theorem cond3 {t:T} {width left:Int} {L:List Int} (h:CondW t width 3 left L):L=widL t width:=by
 rcases h with ⟨h,_⟩ | ⟨h,_⟩ | ⟨h,_⟩ | ⟨_,h⟩
 ·omega
 ·omega
 ·omega
 ·exact h
theorem cond_no {t:T} {width left:Int} {L:List Int} {k:Nat} (h:CondW t width k left L) (hn:¬ 0 < left) (hk:k < 3) (h0:restV t width≤0→widL t width=leastL t) (h1:0 < restV t width→left1 t width≤0→widL t width=out1 t width) (h2:0 < restV t width→left2 t width≤0→widL t width=out2 t width):CondW t width (k+1) left L:=by
 rcases h with ⟨rfl,rfl,rfl⟩ | ⟨rfl,h⟩ | ⟨rfl,h⟩ | ⟨h,_⟩
 ·exact .inr (.inl ⟨rfl,.inr ⟨by omega,(h0 (by omega)).symm⟩⟩)
 ·refine .inr (.inr (.inl ⟨rfl,.inr ?_⟩))
  rcases h with ⟨a,rfl,rfl⟩ | ⟨a,b⟩
  ·exact ⟨by omega,(h1 a (by omega)).symm⟩
  ·exact ⟨a,b⟩
 ·refine .inr (.inr (.inr ⟨rfl,?_⟩))
  rcases h with ⟨a,rfl,rfl⟩ | ⟨a,b⟩
  ·exact (h2 a (by omega)).symm
  ·exact b
 ·omega
theorem cond_yes {t:T} {width left:Int} {L:List Int} {k:Nat} (h:CondW t width k left L) (hp:0 < left) (hk:k < 3):0 < restV t width∧(k=0∧L=leastL t∧left=restV t width∨k=1∧L=out1 t width∧left=left1 t width∨k=2∧L=out2 t width∧left=left2 t width):=by
 rcases h with ⟨rfl,rfl,rfl⟩ | ⟨rfl,h⟩ | ⟨rfl,h⟩ | ⟨h,_⟩
 ·exact ⟨hp,.inl ⟨rfl,rfl,rfl⟩⟩
 ·rcases h with ⟨a,rfl,rfl⟩ | ⟨a,b⟩
  ·exact ⟨a,.inr (.inl ⟨rfl,rfl,rfl⟩)⟩
  ·omega
 ·rcases h with ⟨a,rfl,rfl⟩ | ⟨a,b⟩
  ·exact ⟨a,.inr (.inr ⟨rfl,rfl,rfl⟩)⟩
  ·omega
 ·omega
set_option maxRecDepth 100000 in
set_option maxHeartbeats 1000000 in
theorem implWidCols (ac ar:Option Addr) (cc cr:Nat) (t:T) (hD:Drawn t) (width:Int) (w:World) {z:Nat} (hc:ColsAt w z (.slice ac t.cols.length cc) t.cols) (hr:RowsAt w z (.slice ar t.rows.length cr) t.rows) :
  Calls Tryz.prog 10 #[.agg #[.slice ac t.cols.length cc,.int .i64 t.head,.int .i64 t.foot,.slice ar t.rows.length cr,.int .i64 t.gap],.int .i64 width] w fun e w'=>∃ v,e=.returned v∧RowI w' w.heap.size w'.heap.size v (widT t width)∧Below w.heap.size w w':=by
 have hmx:Tryz.prog.follows .mixedOrders=true:=by kernel_rfl
 have hmf:∀ (fn:Fn) (first cap:Array Value) (W:World),(Instr.makeFunc fn first cap).run Tryz.prog W=.ok (.func fn first cap) W:=fun _ _ _ _=>rfl
 have HK0:=Hd (k_alloc (Below.refl w.heap.size w) (.cells #[.slice ac t.cols.length cc,.int .i64 t.head,.int .i64 t.foot,.slice ar t.rows.length cr,.int .i64 t.gap] 26))
 have HX:=Hd (newestB w (.cells #[.slice ac t.cols.length cc,.int .i64 t.head,.int .i64 t.foot,.slice ar t.rows.length cr,.int .i64 t.gap] 26))
 have HT:=Hd (And.intro (hc.kept HK0.out) (hr.kept HK0.out))
 have HT0:=Hd (And.intro hc hr)
 have hs1:(w.alloc (.cells #[.slice ac t.cols.length cc,.int .i64 t.head,.int .i64 t.foot,.slice ar t.rows.length cr,.int .i64 t.gap] 26)).heap.size=w.heap.size+1:=by simp
 clear hc hr
 go_enter Tryz.func10,Tryz.ntmps10
 go_upto_region 1 with fail
 generalize w.alloc (.cells #[.slice ac t.cols.length cc,.int .i64 t.head,.int .i64 t.foot,.slice ar t.rows.length cr,.int .i64 t.gap] 26)=W1 at HK0 HX HT hs1 ⊢
 have b0:W1.cell? ⟨w.heap.size,0,none⟩=some (.slice ac t.cols.length cc):=cellB HX.out
 have b1:W1.cell? ⟨w.heap.size,1,none⟩=some (.int .i64 t.head):=cellB HX.out
 have b2:W1.cell? ⟨w.heap.size,2,none⟩=some (.int .i64 t.foot):=cellB HX.out
 have b3:W1.cell? ⟨w.heap.size,3,none⟩=some (.slice ar t.rows.length cr):=cellB HX.out
 have b4:W1.cell? ⟨w.heap.size,4,none⟩=some (.int .i64 t.gap):=cellB HX.out
 have KM:=Hd (implmayBeWide ac ar cc cr t width _ HT.out.1 HT.out.2)
 cases hmay:(tblB t && inB width 0 300) with
 | false =>
  have HW:Hid (widT t width=[]):=by rw [Hid,widT,if_neg (by rw [hmay];simp)]
  rw [hmay] at KM
  clear hmay
  go_wp2_with fail
  refine KM.out.mono ?_
  rintro e w2 ⟨rfl,hb2⟩
  have HK2:=Hd (k_trans HK0.out hb2)
  clear hb2 KM b0 b1 b2 b3 b4
  go_wp2
  go_ret
  exact ⟨_,rfl,by rw [HW.out];exact .inl ⟨rfl,rfl⟩,HK2.out⟩
 | true =>
  have HW:Hid (widT t width=widL t width):=by rw [Hid,widT,if_pos hmay]
  rw [hmay] at KM
  rw [Bool.and_eq_true] at hmay
  obtain ⟨htk,hin⟩:=hmay
  have hw:0≤width∧width≤300:=by simpa [inB] using hin
  obtain ⟨hC1,hC88,hacr,ha0,ha1,hall⟩:=acr_least hD htk
  have hlen:=leastL_len t
  have HrV:Hid (restV t width=width - acrV (leastL t) t.gap):=by rw [Hid,hacr];rfl
  have HA:=Hd (fun W v (h:IntsAt W v (leastL t))=>implacrossAll v (leastL t) t.gap W h)
  generalize acrV (leastL t) t.gap=A at HrV HA ha0 ha1 hacr
  clear hacr
  go_wp2_with fail
  refine KM.out.mono ?_
  rintro e w2 ⟨rfl,hb2⟩
  have X2:=(hb2.block w.heap.size (by omega)).trans HX.out
  have HK2:=Hd (k_trans HK0.out hb2)
  have hz2:w.heap.size+1≤w2.heap.size:=by have:=hb2.size;omega
  clear hb2 KM b0 b1 b2 b3 b4 HX HT
  have b0:w2.cell? ⟨w.heap.size,0,none⟩=some (.slice ac t.cols.length cc):=cellB X2
  have b1:w2.cell? ⟨w.heap.size,1,none⟩=some (.int .i64 t.head):=cellB X2
  have b2:w2.cell? ⟨w.heap.size,2,none⟩=some (.int .i64 t.foot):=cellB X2
  have b3:w2.cell? ⟨w.heap.size,3,none⟩=some (.slice ar t.rows.length cr):=cellB X2
  have b4:w2.cell? ⟨w.heap.size,4,none⟩=some (.int .i64 t.gap):=cellB X2
  have HX2:=Hd X2
  clear X2
  go_wp2_with fail
  refine (implColLeast ac ar cc cr t hD _ (HT0.out.1.kept HK2.out) (HT0.out.2.kept HK2.out)).mono ?_
  rintro e w3 ⟨v3,rfl,hR3,hb3⟩
  obtain ⟨g,cap,e3,hgB,hgD,hgw,hc1,hc2,_,_⟩:=hR3.get (i:=0) (by omega)
  subst e3
  have X3:=(hb3.block w.heap.size (by omega)).trans HX2.out
  have HK3:=Hd (k_trans HK2.out hb3)
  have HR3:=Hd hR3
  have hz3:=hb3.size
  clear hb3 b0 b1 b2 b3 b4 HX2 HK2 hR3
  go_upto_region 4 with fail
  rw [hlen] at HR3
  have l3:w.heap.size < w3.heap.size:=by omega
  have hne:=bw_some w3
  have m0:=bw_cell (a:=⟨w.heap.size,0,none⟩) l3 (cellB (p:=0) X3)
  have m1:=bw_cell (a:=⟨w.heap.size,1,none⟩) l3 (cellB (p:=1) X3)
  have m2:=bw_cell (a:=⟨w.heap.size,2,none⟩) l3 (cellB (p:=2) X3)
  have m3:=bw_cell (a:=⟨w.heap.size,3,none⟩) l3 (cellB (p:=3) X3)
  have m4:=bw_cell (a:=⟨w.heap.size,4,none⟩) l3 (cellB (p:=4) X3)
  have KA:=Hd (fun (p:BW w3)=>bw_same (HA.out p.u _ (HR3.out.at.kept p.h)))
  refine wp_region_tail 10 1 hmx (by rfl) (by rfl) (by kernel_rfl) (by kernel_rfl) (by kernel_rfl) ?_
  simp only [List.take_succ_cons,List.take_zero]
  repeat (go_big_quiet_step (first | (go_at_call 37;refine KA.out _)))
  refine wpQuiet_nil ?_
  intro W5 hw'
  obtain ⟨⟨Wx,hW5⟩,hw''⟩:=hw'
  subst hw''
  have X5:=(hW5.block w.heap.size l3).trans X3
  have HK5:=Hd (k_trans HK3.out hW5)
  have HR5:=Hd (HR3.out.kept (fun j h0 _ _=>hW5.block j h0))
  have hz5:=hW5.size
  have HS5:=Hd (newestB W5 (.cells #[.slice ac t.cols.length cc,.int .i64 t.head,.int .i64 t.foot,.slice ar t.rows.length cr,.int .i64 t.gap,.int .i64 width,.slice (some ⟨g,0,none⟩) (colN t) cap,.int .i64 (width - A)] 73))
  clear m0 m1 m2 m3 m4 hne hW5 X3 HR3 HK3 KA X5
  rw [if_pos (by rfl)]
  go_simp
  refine wpAny_ready (rs:=[11]) (by kernel_rfl) (by simp) ?_
  refine AllReady.cons rfl (fun K hK=>?_) AllReady.nil
  go_simp
  refine hK _ _ ?_
  clear hK K
  refine wpAny_done (by kernel_rfl) ?_ _
  have HS6:=Hd (SpS.mk (w0:=w) (D:=W5.heap.size) (k_alloc HK5.out _) HS5.out ((HR5.out.kept (w':=W5.alloc (.cells #[.slice ac t.cols.length cc,.int .i64 t.head,.int .i64 t.foot,.slice ar t.rows.length cr,.int .i64 t.gap,.int .i64 width,.slice (some ⟨g,0,none⟩) (colN t) cap,.int .i64 (width - A)] 73)) (fun j h0 _ _=>Below.heap_alloc _ _ _ h0)).base (by omega) (by omega)))
  rw [← HrV.out] at HS6 ⊢
  have hg0:w.heap.size≤g:=by omega
  have hgD5:g < W5.heap.size:=by omega
  have hs6:(W5.alloc (.cells #[.slice ac t.cols.length cc,.int .i64 t.head,.int .i64 t.foot,.slice ar t.rows.length cr,.int .i64 t.gap,.int .i64 width,.slice (some ⟨g,0,none⟩) (colN t) cap,.int .i64 (restV t width)] 73)).heap.size=W5.heap.size+1:=by simp
  generalize W5.alloc (.cells #[.slice ac t.cols.length cc,.int .i64 t.head,.int .i64 t.foot,.slice ar t.rows.length cr,.int .i64 t.gap,.int .i64 width,.slice (some ⟨g,0,none⟩) (colN t) cap,.int .i64 (restV t width)] 73)=W6 at HS6 hs6 ⊢
  generalize W5.heap.size=sb at HS6 hs6 hgD5 ⊢
  clear HS5 HR5 HK5 hz5
  go_upto_region 6 with fail
  have HS7:=Hd (HS6.out.kept (k_alloc (Below.refl W6.heap.size W6) (.cells #[.func (.func 46) #[.pointer (some ⟨sb,0,none⟩)] #[],.func (.func 47) #[.pointer (some ⟨sb,0,none⟩)] #[],.func (.func 48) #[.pointer (some ⟨sb,0,none⟩)] #[]] 1)))
  have HF7:=Hd (newestB W6 (.cells #[.func (.func 46) #[.pointer (some ⟨sb,0,none⟩)] #[],.func (.func 47) #[.pointer (some ⟨sb,0,none⟩)] #[],.func (.func 48) #[.pointer (some ⟨sb,0,none⟩)] #[]] 1))
  rw [hs6] at HF7
  generalize W6.alloc (.cells #[.func (.func 46) #[.pointer (some ⟨sb,0,none⟩)] #[],.func (.func 47) #[.pointer (some ⟨sb,0,none⟩)] #[],.func (.func 48) #[.pointer (some ⟨sb,0,none⟩)] #[]] 1)=W7 at HS7 HF7 ⊢
  clear HS6 hs6
  have HWno:=Hd (fun h=>wid_no (t:=t) (width:=width) h)
  have HW1:=Hd (fun h=>wid_one hD htk hw hC88 h)
  have HW2:=Hd (fun h=>wid_two hD htk hw hC88 h)
  have HWr:=Hd (fun h=>wid_rest (t:=t) (width:=width) h)
  have HSt:=Hd (fun h=>wid_steps hD htk hw h)
  have HSm:=Hd (fun h=>out1_small hD htk hw h)
  have HOw:=Hd (fun h (j:Nat) (hj:j < colN t) (hP:kindP t 0 j=true)=>out1_wish hD htk hw h hj hP)
  go_wp2_with fail
  go_loopw [36] (fun s W=>∃ (k:Nat) (left:Int) (L:List Int),s=.int .i64 k∧k≤3∧Hid (SpS w sb ac ar cc cr t width g cap (colN t) sb left L W)∧Hid (W.heap[sb+1]?=some (.cells #[.func (.func 46) #[.pointer (some ⟨sb,0,none⟩)] #[],.func (.func 47) #[.pointer (some ⟨sb,0,none⟩)] #[],.func (.func 48) #[.pointer (some ⟨sb,0,none⟩)] #[]] 1))∧Hid (CondW t width k left L)) (fun s _=>3 - (intOf s).toNat)
  case atStart=>exact ⟨0,_,_,rfl,Nat.zero_le _,HS7,HF7,.inl ⟨rfl,rfl,rfl⟩⟩
  case round =>
   obtain ⟨k,left,L,rfl,hk,HS,HF,HC⟩:=hrel
   have s7:wr.cell? ⟨sb,7,none⟩=some (.int .i64 left):=cellB (p:=7) HS.out.sp
   have s6:wr.cell? ⟨sb,6,none⟩=some (.slice (some ⟨g,0,none⟩) (colN t) cap):=cellB (p:=6) HS.out.sp
   have f0:wr.cell? ⟨sb+1,0,none⟩=some (.func (.func 46) #[.pointer (some ⟨sb,0,none⟩)] #[]):=cellB (p:=0) HF.out
   have f1:wr.cell? ⟨sb+1,1,none⟩=some (.func (.func 47) #[.pointer (some ⟨sb,0,none⟩)] #[]):=cellB (p:=1) HF.out
   have f2:wr.cell? ⟨sb+1,2,none⟩=some (.func (.func 48) #[.pointer (some ⟨sb,0,none⟩)] #[]):=cellB (p:=2) HF.out
   by_cases hk3:k=3
   ·subst hk3
    have HL:=Hd (cond3 HC.out)
    go_wp2
    go_ret
    exact ⟨_,rfl,by rw [HW.out,← HL.out];exact HS.out.row.base (Nat.le_refl _) (Nat.le_of_lt HS.out.sp.lt),HS.out.bel⟩
   by_cases hpos:0 < left
   case neg =>
    have HN:=Hd (cond_no HC.out hpos (by omega) HWno.out HW1.out HW2.out)
    rcases (by omega:k=0∨k=1∨k=2) with rfl | rfl | rfl
    all_goals
     go_wp2
     go_roundw
     case rel=>exact ⟨_,left,L,by go_num,by omega,HS,HF,HN⟩
     case measure=>simp [intOf]
   case pos =>
    obtain ⟨hV,hst⟩:=cond_yes HC.out hpos (by omega)
    clear HC
    rcases hst with ⟨rfl,rfl,rfl⟩ | ⟨rfl,rfl,rfl⟩ | ⟨rfl,rfl,rfl⟩
    ·have hst:=HSt.out hV
     have HKe:=Hd (impltoParts w sb ac ar cc cr t width g cap (colN t) sb (restV t width) (leastL t) HT0.out.1 hC88 rfl hlen hall hg0 hgD5 (Nat.le_refl _) hw hst.1 wr HS.out)
     clear hst
     go_wp2_with (go_at_call 46;refine HKe.out.mono ?_;rintro e w8 ⟨rfl,hS8,hb8⟩;replace HF:=Hd ((hb8.block (sb+1) (bL HF.out) (by omega) (by omega)).trans HF.out);clear hb8 HKe s6 s7 f0 f1 f2)
     go_roundw
     case rel=>exact ⟨1,_,_,by go_num,by omega,hS8,HF,.inr (.inl ⟨rfl,.inl ⟨hV,rfl,rfl⟩⟩)⟩
     case measure=>simp [intOf]
    ·have hst:=HSt.out hV
     have HKe:=Hd (impltoWishes w sb ac ar cc cr t width g cap (colN t) sb (left1 t width) (out1 t width) hD HT0.out.1 HT0.out.2 (HOw.out hV) hC88 rfl hst.2.2.2.1 (HSm.out hV).1 hg0 hgD5 (Nat.le_refl _) hst.2.1 wr HS.out)
     clear hst
     go_wp2_with (go_at_call 47;refine HKe.out.mono ?_;rintro e w8 ⟨rfl,hS8,hb8⟩;replace HF:=Hd ((hb8.block (sb+1) (bL HF.out) (by omega) (by omega)).trans HF.out);clear hb8 HKe s6 s7 f0 f1 f2)
     go_roundw
     case rel=>exact ⟨2,_,_,by go_num,by omega,hS8,HF,.inr (.inr (.inl ⟨rfl,.inl ⟨hV,rfl,rfl⟩⟩))⟩
     case measure=>simp [intOf]
    ·have hst:=HSt.out hV
     have HKe:=Hd (impltoTheRest w sb ac ar cc cr t width g cap (colN t) sb (left2 t width) (out2 t width) HT0.out.1 hC88 hst.2.2.2.2.1 (HSm.out hV).2 hg0 hgD5 (Nat.le_refl _) (by have:=hst.2.2.1;omega) wr HS.out)
     clear hst
     go_wp2_with (go_at_call 48;refine HKe.out.mono ?_;rintro e w8 ⟨rfl,⟨left8,hS8⟩,hb8⟩;replace HF:=Hd ((hb8.block (sb+1) (bL HF.out) (by omega) (by omega)).trans HF.out);clear hb8 HKe s6 s7 f0 f1 f2)
     go_roundw
     case rel=>exact ⟨3,_,_,by go_num,by omega,hS8,HF,.inr (.inr (.inr ⟨rfl,(HWr.out hV).symm⟩))⟩
     case measure=>simp [intOf]
structure HlJ (w W1 W3:World) (BB:Nat) (ac ar ag:Option Addr) (cc cr cg:Nat) (t:T) (x:GC) (U:Value) (us:List Value) (ls:List (List ByteArray)) (lns:List ByteArray) (s:ByteArray) (q:Int) (va:Value) (k tb gb cb b off:Nat) (L:Nat→Bool) (W:World) (v6 v24 v25 v26 v27 v28 v29 v30 v31 v32 v33 v34 v35:Value):Prop where
 f0:L 0=true→v24=U
 f1:L 1=true→v25=.agg #[.slice ac t.cols.length cc,.int .i64 t.head,.int .i64 t.foot,.slice ar t.rows.length cr,.int .i64 t.gap]
 f2:L 2=true→v26=.agg #[.int .i64 x.row,.int .i64 x.col,.int .i64 x.rows,.int .i64 x.cols,.int .i64 x.ins]
 f3:L 3=true→v27=.string s
 f4:L 4=true→v28=va
 f5:L 5=true→v29=.pointer (some ⟨tb,4,none⟩)
 f6:L 6=true→v30=.int .i64 t.gap
 f7:L 7=true→v31=.agg #[.int .i64 x.row,.int .i64 x.col,.int .i64 x.rows,.int .i64 x.cols,.int .i64 x.ins]
 f8:L 8=true→v32=.int .i64 q
 f9:L 9=true→L 11=false→RowS W BB v33 lns
 f10:L 10=true→∃ g,v34=.slice (some ⟨g,0,none⟩) 1 1∧(L 11=false→W.cell? ⟨g,0,none⟩=some v33)
 fA:L 12=true→v6=v35
 nA:L 12=false→v6=U
 b4:L 11=false→Below W3.heap.size W3 W
 bel:Below W1.heap.size W1 W
 ownA:L 11=true→W.ownsRow BB 56 1 v35 (us ++ [v33]).length (us ++ [v33])∧RowSs W BB (us ++ [v33]) (ls ++ [lns])
theorem field_cells (a b c:Value) (W:World):(Instr.field 34 (.agg #[a,b,c]) 2).run Tryz.prog W=.ok c W:=by kernel_rfl
set_option maxRecDepth 100000 in
set_option maxHeartbeats 4000000 in
theorem implHgtLines (ac ar:Option Addr) (cc cr:Nat) (t:T) (hD:Drawn t) (width:Int) (w:World) {z:Nat} (hc:ColsAt w z (.slice ac t.cols.length cc) t.cols) (hr:RowsAt w z (.slice ar t.rows.length cr) t.rows) :
  Calls Tryz.prog 49 #[.agg #[.slice ac t.cols.length cc,.int .i64 t.head,.int .i64 t.foot,.slice ar t.rows.length cr,.int .i64 t.gap],.int .i64 width] w fun e w'=>∃ v,e=.returned v∧LlsAt w' w.heap.size v (linesT t width)∧Below w.heap.size w w':=by
 have hmx:Tryz.prog.follows .mixedOrders=true:=by kernel_rfl
 have hfld:=field_cells
 obtain ⟨i0,hi0,hz0,hz1,hz2⟩:=info_parts infoSs
 have HK0:=Hd (k_alloc (Below.refl w.heap.size w) (.cells #[.slice ac t.cols.length cc,.int .i64 t.head,.int .i64 t.foot,.slice ar t.rows.length cr,.int .i64 t.gap] 26))
 have HX0:=Hd (newestB w (.cells #[.slice ac t.cols.length cc,.int .i64 t.head,.int .i64 t.foot,.slice ar t.rows.length cr,.int .i64 t.gap] 26))
 have HT0:Hid (TA w z ac ar cc cr t):=⟨hc,hr⟩
 have hs0:(w.alloc (.cells #[.slice ac t.cols.length cc,.int .i64 t.head,.int .i64 t.foot,.slice ar t.rows.length cr,.int .i64 t.gap] 26)).heap.size=w.heap.size+1:=by simp
 clear hc hr
 go_enter Tryz.func49,Tryz.ntmps49
 go_upto_region 1 with fail
 generalize w.alloc (.cells #[.slice ac t.cols.length cc,.int .i64 t.head,.int .i64 t.foot,.slice ar t.rows.length cr,.int .i64 t.gap] 26)=W0 at HK0 HX0 hs0 ⊢
 obtain ⟨b0,b1,b2,b3,b4⟩:=fiveO HX0.out
 have KM:=Hd (implmayBeWide ac ar cc cr t width _ (HT0.out.kept HK0.out).1 (HT0.out.kept HK0.out).2)
 cases hmay:(tblB t && inB width 0 300) with
 | false =>
  have HW:Hid (linesT t width=[]):=by rw [Hid,linesT,if_neg (by rw [hmay];simp)]
  rw [hmay] at KM
  clear hmay
  go_wp2_with fail
  refine KM.out.mono ?_
  rintro e w2 ⟨rfl,hb2⟩
  have HK2:=Hd (k_trans HK0.out hb2)
  clear hb2 KM b0 b1 b2 b3 b4
  go_wp2
  go_ret
  exact ⟨_,rfl,by rw [HW.out];exact ⟨none,0,rfl,Nat.le_refl _,Nat.zero_le _,fun i hi=>absurd hi (Nat.not_lt_zero _)⟩,HK2.out⟩
 | true =>
  have HW:Hid (linesT t width=linesL t (widL t width) (gOf t).cells):=by rw [Hid,linesT,if_pos hmay]
  rw [hmay] at KM
  have HWT:Hid (widT t width=widL t width):=by rw [Hid,widT,if_pos hmay]
  rw [Bool.and_eq_true] at hmay
  obtain ⟨htk,hin⟩:=hmay
  have hw:0≤width∧width≤300:=by simpa [inB] using hin
  obtain ⟨_,hlw,_⟩:=acr_wid hD htk hw
  obtain ⟨_,hC88,_⟩:=acr_least hD htk
  obtain ⟨h40,C,hgc,hC88',hcel⟩:=cel_of hD
  have HCel:=Hd hcel
  have HLw:=Hd hlw
  have hl1:(widL t width).length≤1048576:=by rw [hlw];omega
  have KC:=Hd (fun W (h:TA W z ac ar cc cr t)=>implWidCols ac ar cc cr t hD width W h.1 h.2)
  have KG:=Hd (fun W (h:TA W z ac ar cc cr t)=>implGrdOf ac ar cc cr t hD W h.1 h.2)
  rw [HWT.out] at KC
  generalize widL t width=l at KC HW HLw hl1
  have HGk:=Hd (gOf_gok hD)
  clear hlw hcel hgc hD htk hin hw hC88' HWT
  go_wp2_with fail
  refine KM.out.mono ?_
  rintro e w2 ⟨rfl,hb2⟩
  have HX2:=Hd ((hb2.block w.heap.size (by omega)).trans HX0.out)
  have HK2:=Hd (k_trans HK0.out hb2)
  have hz2':w.heap.size < w2.heap.size:=by have:=hb2.size;omega
  clear hb2 KM b0 b1 b2 b3 b4 HX0 HK0
  obtain ⟨b0,b1,b2,b3,b4⟩:=fiveO HX2.out
  go_wp2_with fail
  refine (KC.out _ (HT0.out.kept HK2.out)).mono ?_
  rintro e w3 ⟨v3,rfl,hR3,hb3⟩
  obtain ⟨a3,c3,rfl⟩:=hR3.form
  have HI3:=Hd hR3.at
  rw [HLw.out] at HI3
  have HX3:=Hd ((hb3.block w.heap.size hz2').trans HX2.out)
  have HK3:=Hd (k_trans HK2.out hb3)
  have hz3:w.heap.size < w3.heap.size:=by have:=hb3.size;omega
  clear hb3 hR3 b0 b1 b2 b3 b4 HX2 HK2
  rw [HLw.out]
  obtain ⟨b0,b1,b2,b3,b4⟩:=fiveO HX3.out
  go_wp2_with fail
  refine (KG.out _ (HT0.out.kept HK3.out)).mono ?_
  rintro e W1 ⟨vg,rfl,hO4,hb4⟩
  obtain ⟨ag,cg,rfl⟩:=own_slice hO4
  have HG1:=Hd (hO4.at HGk.out)
  have HX1:=Hd ((hb4.block w.heap.size hz3).trans HX3.out)
  have HK1:=Hd (k_trans HK3.out hb4)
  have HI1:=Hd (HI3.out.kept hb4)
  have hz1':w.heap.size < W1.heap.size:=by have:=hb4.size;omega
  have HLe:=Hd (linesL_len t l (gOf t).cells)
  have HLn:=Hd (fun k (h:k < (gOf t).cells.length)=>linesL_next t l h)
  have HLs:=Hd (linesL_size t l (gOf t).cells)
  clear hb4 hO4 b0 b1 b2 b3 b4 HX3 HK3 HI3
  go_wp2_with fail
  go_loopw [6,20] (fun o i W=>∃ (k:Nat) (us:List Value),i=.int .i64 k∧k≤(gOf t).cells.length∧Hid (W.ownsRow W1.heap.size 56 1 o us.length us)∧Hid (RowSs W W1.heap.size us ((linesL t l (gOf t).cells).take k))∧Hid (Below W1.heap.size W1 W)) (fun _ i _=>(gOf t).cells.length - (intOf i).toNat)
  case atStart=>exact ⟨0,[],rfl,Nat.zero_le _,World.ownsRow_nil _ _ _ _,by rw [List.take_zero];exact RowSs.nil _ _,Below.refl _ _⟩
  case round =>
   obtain ⟨k,us,rfl,hk,HO,HRs,HBr⟩:=hrel
   by_cases hkl:k < (gOf t).cells.length
   case neg =>
    obtain rfl:k=(gOf t).cells.length:=by omega
    rw [← HLe.out,List.take_length] at HRs
    have HF:=Hd (HRs.out.lls HO.out (z:=w.heap.size) (by omega) (by omega) HLs.out)
    have HK:=Hd (HK1.out.trans (HBr.out.mono (by omega)))
    go_wp2
    go_ret
    exact ⟨_,rfl,by rw [HW.out];exact HF.out,HK.out⟩
   obtain ⟨b,off,cap',e',hc1,hc2,hbl,hx,hxo⟩:=At.get (HG1.out.kept HBr.out) hkl
   simp only [Value.slice.injEq,true_and] at e'
   obtain ⟨rfl,rfl⟩:=e'
   have HNx:=Hd (HLn.out k hkl)
   have HCx:=Hd (HCel.out k hkl)
   generalize (linesL t l (gOf t).cells).take k=ls at HRs HNx
   generalize (gOf t).cells.getD k dG=x at hx hxo HNx HCx
   obtain ⟨x0,x1,x2,x3,x4⟩:=hx
   unfold maxLen at hc2
   go_upto_region 8 with fail
   have HB4:=Hd (k_alloc (Below.refl wr.heap.size wr) (.cells #[.int .i64 x.row,.int .i64 x.col,.int .i64 x.rows,.int .i64 x.cols,.int .i64 x.ins] 78))
   have HB1:=Hd (k_trans HBr.out HB4.out)
   have HC4:=Hd (newestB wr (.cells #[.int .i64 x.row,.int .i64 x.col,.int .i64 x.rows,.int .i64 x.cols,.int .i64 x.ins] 78))
   have hlc:wr.heap.size < (wr.alloc (.cells #[.int .i64 x.row,.int .i64 x.col,.int .i64 x.rows,.int .i64 x.cols,.int .i64 x.ins] 78)).heap.size:=by simp
   have HX:=Hd ((HB1.out.block w.heap.size hz1').trans HX1.out)
   have hlt0:w.heap.size < (wr.alloc (.cells #[.int .i64 x.row,.int .i64 x.col,.int .i64 x.rows,.int .i64 x.cols,.int .i64 x.ins] 78)).heap.size:=(bL HX.out)
   replace HO:=Hd (ownsRow_keptS HO.out HB4.out)
   replace HRs:=Hd (HRs.out.kept HB4.out)
   generalize wr.alloc (.cells #[.int .i64 x.row,.int .i64 x.col,.int .i64 x.rows,.int .i64 x.cols,.int .i64 x.ins] 78)=W3 at HB4 HB1 HC4 hlc HX hlt0 HO HRs ⊢
   generalize wr.heap.size=cb at HC4 hlc ⊢
   have hsz:(textOf t x).size≤maxLen:=text_size HCx.out HT0.out.2
   have KT:=Hd (fun W (h:Below W3.heap.size W3 W)=>impltextOf ac ar cc cr t x HCx.out W (((HT0.out.2.kept HK1.out).kept HB1.out).kept h))
   have KW:=Hd (fun W (h:Below W3.heap.size W3 W)=>implWidCell _ l hl1 t.gap x hxo W ((HI1.out.kept HB1.out).kept h))
   have KL:=Hd (fun W=>implTxtLines (textOf t x) hsz (cellV l t.gap x) W)
   have HNy:Hid ((linesL t l (gOf t).cells).take (k+1)=ls ++ [lnOut (lnSt (cellV l t.gap x) (wordsW (textOf t x)))]):=HNx.out
   clear HNx hsz
   have HNx:=HNy
   clear HNy HCx hxo
   generalize lnOut (lnSt (cellV l t.gap x) (wordsW (textOf t x)))=lns at KL HNx
   generalize cellV l t.gap x=q at KW KL
   generalize textOf t x=s at KT KL
   have husl:us.length≤40:=by have h1:=HRs.out.1;have h2:=congrArg List.length HNx.out;rw [List.length_append,List.length_take,List.length_singleton] at h2;omega
   have HBs:Hid (∀ {m:Nat},W1.heap.size≤m→W1.heap.size≤m):=fun h=>h
   have HBs2:Hid (∀ {m:Nat},W1.heap.size≤m→W1.heap.size≤m):=fun h=>h
   clear HCel HLn HLs HLe x0 x1 x2 x3 x4 HBr HB4
   refine wp_region_inv2 (fun L act W=>∃ v6 v24 v25 v26 v27 v28 v29 v30 v31 v32 v33 v34 v35:Value,act=⟨#[.agg #[.slice ac t.cols.length cc,.int .i64 t.head,.int .i64 t.foot,.slice ar t.rows.length cr,.int .i64 t.gap],.int .i64 width,.pointer (some ⟨w.heap.size,0,none⟩),undef,.slice none 0 0,.slice a3 (colN t) c3,v6,undef,.pointer (some ⟨cb,0,none⟩),.agg #[.slice ac t.cols.length cc,.int .i64 t.head,.int .i64 t.foot,.slice ar t.rows.length cr,.int .i64 t.gap],.int .i64 width,.bool true,.bool false,.agg #[.slice ac t.cols.length cc,.int .i64 t.head,.int .i64 t.foot,.slice ar t.rows.length cr,.int .i64 t.gap],.int .i64 width,.slice a3 (colN t) c3,.agg #[.slice ac t.cols.length cc,.int .i64 t.head,.int .i64 t.foot,.slice ar t.rows.length cr,.int .i64 t.gap],.agg #[.int .i64 (gOf t).rows,.int .i64 (gOf t).cols,.slice (some ⟨b,off,none⟩) (gOf t).cells.length cg],.slice (some ⟨b,off,none⟩) (gOf t).cells.length cg,.int .i64 ((gOf t).cells.length:Int),.int .i64 (k:Int),.bool true,.pointer (some ⟨b,off+k * 5,none⟩),.agg #[.int .i64 x.row,.int .i64 x.col,.int .i64 x.rows,.int .i64 x.cols,.int .i64 x.ins],v24,v25,v26,v27,v28,v29,v30,v31,v32,v33,v34,v35,u36,undef],[]⟩∧HlJ w W1 W3 W1.heap.size ac ar (some ⟨b,off,none⟩) cc cr cg t x u6 us ls lns s q (.slice a3 (colN t) c3) k w.heap.size 0 cb b off L W v6 v24 v25 v26 v27 v28 v29 v30 v31 v32 v33 v34 v35) hmx (by kernel_rfl) ?hs ?hd ?h0
   case h0=>exact ⟨_,_,_,_,_,_,_,_,_,_,_,_,_,rfl,⟨(fun h=>by cases h),(fun h=>by cases h),(fun h=>by cases h),(fun h=>by cases h),(fun h=>by cases h),(fun h=>by cases h),(fun h=>by cases h),(fun h=>by cases h),(fun h=>by cases h),(fun h=>by cases h),(fun h=>by cases h),(fun h=>by cases h),(fun _=>rfl),(fun _=>k_drew (Below.refl _ _)),k_drew HB1.out,(fun h=>by cases h)⟩⟩
   case hd =>
    intro L act W hJ hall
    obtain ⟨v6,v24,v25,v26,v27,v28,v29,v30,v31,v32,v33,v34,v35,ha,J⟩:=hJ
    subst ha
    obtain rfl:=J.fA (hall 12 (by decide))
    obtain ⟨ho5,hr5⟩:=J.ownA (hall 11 (by decide))
    have HO5:=Hd ho5
    have HR5:=Hd hr5
    have HB5:=Hd J.bel
    obtain ⟨g',cap'',rfl⟩:=Joins.ownsRow_form HO5.out (by simp)
    clear J hall ho5 hr5
    go_wp2
    go_roundw
    case rel=>exact ⟨k+1,_,by go_num,by omega,HO5,by rw [HNx.out];exact HR5,HB5⟩
    case measure=>simp [intOf];omega
   case hs =>
    intro L act W i o hJ hcl ho hLi haft K hK
    obtain ⟨v6,v24,v25,v26,v27,v28,v29,v30,v31,v32,v33,v34,v35,ha,J⟩:=hJ
    subst ha
    have hi':i < 13:=by
     have:=(bL ho)
     simpa using this
    rcases (by omega:i=0∨i=1∨i=2∨i=3∨i=4∨i=5∨i=6∨i=7∨i=8∨i=9∨i=10∨i=11∨i=12) with rfl | rfl | rfl | rfl | rfl | rfl | rfl | rfl | rfl | rfl | rfl | rfl | rfl
    all_goals
     simp only [List.getElem?_toArray,List.getElem?_cons_zero,List.getElem?_cons_succ,Option.some.injEq] at ho
     subst ho
     clear hi'
    ·skip
     have hAp:L 11=false:=(hcl 11 0 (by kernel_rfl) hLi)
     have hAs:L 12=false:=(hcl 12 11 (by kernel_rfl) (hcl 11 0 (by kernel_rfl) hLi))
     have B4:=J.b4 hAp
     obtain rfl:=J.nA hAs
     go_simp
     exact hK _ _ ⟨_,_,_,_,_,_,_,_,_,_,_,_,_,rfl,⟨(fun _=>rfl),(uq J.f1),(uq J.f2),(uq J.f3),(uq J.f4),(uq J.f5),(uq J.f6),(uq J.f7),(uq J.f8),(fun h h2=>J.f9 (un h) (by rwa [upd_ne rfl] at h2)),(ub J.f10),(uf hAs),(uq J.nA),(fun _=>B4),J.bel,(uf hAp)⟩⟩
    ·skip
     have hAp:L 11=false:=(hcl 11 10 (by kernel_rfl) (hcl 10 9 (by kernel_rfl) (hcl 9 3 (by kernel_rfl) (hcl 3 1 (by kernel_rfl) hLi))))
     have hAs:L 12=false:=(hcl 12 11 (by kernel_rfl) (hcl 11 10 (by kernel_rfl) (hcl 10 9 (by kernel_rfl) (hcl 9 3 (by kernel_rfl) (hcl 3 1 (by kernel_rfl) hLi)))))
     have B4:=J.b4 hAp
     obtain ⟨q0,q1,q2,q3,q4⟩:=fiveO ((B4.block _ hlt0).trans HX.out)
     have hl:=Nat.lt_of_lt_of_le hlt0 B4.size
     go_simp
     exact hK _ _ ⟨_,_,_,_,_,_,_,_,_,_,_,_,_,rfl,⟨(uq J.f0),(fun _=>rfl),(uq J.f2),(uq J.f3),(uq J.f4),(uq J.f5),(uq J.f6),(uq J.f7),(uq J.f8),(fun h h2=>J.f9 (un h) (by rwa [upd_ne rfl] at h2)),(ub J.f10),(uf hAs),(uq J.nA),(fun _=>B4),J.bel,(uf hAp)⟩⟩
    ·skip
     have hAp:L 11=false:=(hcl 11 10 (by kernel_rfl) (hcl 10 9 (by kernel_rfl) (hcl 9 3 (by kernel_rfl) (hcl 3 2 (by kernel_rfl) hLi))))
     have hAs:L 12=false:=(hcl 12 11 (by kernel_rfl) (hcl 11 10 (by kernel_rfl) (hcl 10 9 (by kernel_rfl) (hcl 9 3 (by kernel_rfl) (hcl 3 2 (by kernel_rfl) hLi)))))
     have B4:=J.b4 hAp
     obtain ⟨q0,q1,q2,q3,q4⟩:=fiveO ((B4.block _ hlc).trans HC4.out)
     have hl:=Nat.lt_of_lt_of_le hlc B4.size
     go_simp
     exact hK _ _ ⟨_,_,_,_,_,_,_,_,_,_,_,_,_,rfl,⟨(uq J.f0),(uq J.f1),(fun _=>rfl),(uq J.f3),(uq J.f4),(uq J.f5),(uq J.f6),(uq J.f7),(uq J.f8),(fun h h2=>J.f9 (un h) (by rwa [upd_ne rfl] at h2)),(ub J.f10),(uf hAs),(uq J.nA),(fun _=>B4),J.bel,(uf hAp)⟩⟩
    ·skip
     have hAp:L 11=false:=(hcl 11 10 (by kernel_rfl) (hcl 10 9 (by kernel_rfl) (hcl 9 3 (by kernel_rfl) hLi)))
     have hAs:L 12=false:=(hcl 12 11 (by kernel_rfl) (hcl 11 10 (by kernel_rfl) (hcl 10 9 (by kernel_rfl) (hcl 9 3 (by kernel_rfl) hLi))))
     have B4:=J.b4 hAp
     obtain rfl:=J.f1 (haft ⟨1,.data⟩ (by simp) rfl)
     obtain rfl:=J.f2 (haft ⟨2,.data⟩ (by simp) rfl)
     go_simp
     go_wp2_with (go_at_call 105;refine (KT.out W B4).mono ?_;rintro e WN ⟨rfl,_,hb⟩)
     exact ⟨_,_,_,_,_,_,_,_,_,_,_,_,_,rfl,⟨(uq J.f0),(uq J.f1),(uq J.f2),(fun _=>rfl),(uq J.f4),(uq J.f5),(uq J.f6),(uq J.f7),(uq J.f8),(fun h h2=>(J.f9 (un h) (by rwa [upd_ne rfl] at h2)).below hb (Nat.le_refl _)),(fun h=>by obtain ⟨g,e,c⟩:=J.f10 (un h);exact ⟨g,e,fun h2=>(hb.cell (World.block_lt_of_cell? _ _ (c (by rwa [upd_ne rfl] at h2)))).trans (c (by rwa [upd_ne rfl] at h2))⟩),(uf hAs),(uq J.nA),(fun _=>k_trans B4 hb),k_trans J.bel hb,(uf hAp)⟩⟩
    ·skip
     have hAp:L 11=false:=(hcl 11 10 (by kernel_rfl) (hcl 10 9 (by kernel_rfl) (hcl 9 8 (by kernel_rfl) (hcl 8 4 (by kernel_rfl) hLi))))
     have hAs:L 12=false:=(hcl 12 11 (by kernel_rfl) (hcl 11 10 (by kernel_rfl) (hcl 10 9 (by kernel_rfl) (hcl 9 8 (by kernel_rfl) (hcl 8 4 (by kernel_rfl) hLi)))))
     have B4:=J.b4 hAp
     go_simp
     exact hK _ _ ⟨_,_,_,_,_,_,_,_,_,_,_,_,_,rfl,⟨(uq J.f0),(uq J.f1),(uq J.f2),(uq J.f3),(fun _=>rfl),(uq J.f5),(uq J.f6),(uq J.f7),(uq J.f8),(fun h h2=>J.f9 (un h) (by rwa [upd_ne rfl] at h2)),(ub J.f10),(uf hAs),(uq J.nA),(fun _=>B4),J.bel,(uf hAp)⟩⟩
    ·skip
     have hAp:L 11=false:=(hcl 11 10 (by kernel_rfl) (hcl 10 9 (by kernel_rfl) (hcl 9 8 (by kernel_rfl) (hcl 8 6 (by kernel_rfl) (hcl 6 5 (by kernel_rfl) hLi)))))
     have hAs:L 12=false:=(hcl 12 11 (by kernel_rfl) (hcl 11 10 (by kernel_rfl) (hcl 10 9 (by kernel_rfl) (hcl 9 8 (by kernel_rfl) (hcl 8 6 (by kernel_rfl) (hcl 6 5 (by kernel_rfl) hLi))))))
     have B4:=J.b4 hAp
     go_simp
     exact hK _ _ ⟨_,_,_,_,_,_,_,_,_,_,_,_,_,rfl,⟨(uq J.f0),(uq J.f1),(uq J.f2),(uq J.f3),(uq J.f4),(fun _=>rfl),(uq J.f6),(uq J.f7),(uq J.f8),(fun h h2=>J.f9 (un h) (by rwa [upd_ne rfl] at h2)),(ub J.f10),(uf hAs),(uq J.nA),(fun _=>B4),J.bel,(uf hAp)⟩⟩
    ·skip
     have hAp:L 11=false:=(hcl 11 10 (by kernel_rfl) (hcl 10 9 (by kernel_rfl) (hcl 9 8 (by kernel_rfl) (hcl 8 6 (by kernel_rfl) hLi))))
     have hAs:L 12=false:=(hcl 12 11 (by kernel_rfl) (hcl 11 10 (by kernel_rfl) (hcl 10 9 (by kernel_rfl) (hcl 9 8 (by kernel_rfl) (hcl 8 6 (by kernel_rfl) hLi)))))
     have B4:=J.b4 hAp
     obtain ⟨q0,q1,q2,q3,q4⟩:=fiveO ((B4.block _ hlt0).trans HX.out)
     have hl:=Nat.lt_of_lt_of_le hlt0 B4.size
     obtain rfl:=J.f5 (haft ⟨5,.data⟩ (by simp) rfl)
     go_simp
     exact hK _ _ ⟨_,_,_,_,_,_,_,_,_,_,_,_,_,rfl,⟨(uq J.f0),(uq J.f1),(uq J.f2),(uq J.f3),(uq J.f4),(uq J.f5),(fun _=>rfl),(uq J.f7),(uq J.f8),(fun h h2=>J.f9 (un h) (by rwa [upd_ne rfl] at h2)),(ub J.f10),(uf hAs),(uq J.nA),(fun _=>B4),J.bel,(uf hAp)⟩⟩
    ·skip
     have hAp:L 11=false:=(hcl 11 10 (by kernel_rfl) (hcl 10 9 (by kernel_rfl) (hcl 9 8 (by kernel_rfl) (hcl 8 7 (by kernel_rfl) hLi))))
     have hAs:L 12=false:=(hcl 12 11 (by kernel_rfl) (hcl 11 10 (by kernel_rfl) (hcl 10 9 (by kernel_rfl) (hcl 9 8 (by kernel_rfl) (hcl 8 7 (by kernel_rfl) hLi)))))
     have B4:=J.b4 hAp
     obtain ⟨q0,q1,q2,q3,q4⟩:=fiveO ((B4.block _ hlc).trans HC4.out)
     have hl:=Nat.lt_of_lt_of_le hlc B4.size
     go_simp
     exact hK _ _ ⟨_,_,_,_,_,_,_,_,_,_,_,_,_,rfl,⟨(uq J.f0),(uq J.f1),(uq J.f2),(uq J.f3),(uq J.f4),(uq J.f5),(uq J.f6),(fun _=>rfl),(uq J.f8),(fun h h2=>J.f9 (un h) (by rwa [upd_ne rfl] at h2)),(ub J.f10),(uf hAs),(uq J.nA),(fun _=>B4),J.bel,(uf hAp)⟩⟩
    ·skip
     have hAp:L 11=false:=(hcl 11 10 (by kernel_rfl) (hcl 10 9 (by kernel_rfl) (hcl 9 8 (by kernel_rfl) hLi)))
     have hAs:L 12=false:=(hcl 12 11 (by kernel_rfl) (hcl 11 10 (by kernel_rfl) (hcl 10 9 (by kernel_rfl) (hcl 9 8 (by kernel_rfl) hLi))))
     have B4:=J.b4 hAp
     obtain rfl:=J.f4 (haft ⟨4,.data⟩ (by simp) rfl)
     obtain rfl:=J.f6 (haft ⟨6,.data⟩ (by simp) rfl)
     obtain rfl:=J.f7 (haft ⟨7,.data⟩ (by simp) rfl)
     go_simp
     go_wp2_with (go_at_call 66;refine (KW.out W B4).mono ?_;rintro e WN ⟨rfl,hb⟩)
     exact ⟨_,_,_,_,_,_,_,_,_,_,_,_,_,rfl,⟨(uq J.f0),(uq J.f1),(uq J.f2),(uq J.f3),(uq J.f4),(uq J.f5),(uq J.f6),(uq J.f7),(fun _=>rfl),(fun h h2=>(J.f9 (un h) (by rwa [upd_ne rfl] at h2)).below hb (Nat.le_refl _)),(fun h=>by obtain ⟨g,e,c⟩:=J.f10 (un h);exact ⟨g,e,fun h2=>(hb.cell (World.block_lt_of_cell? _ _ (c (by rwa [upd_ne rfl] at h2)))).trans (c (by rwa [upd_ne rfl] at h2))⟩),(uf hAs),(uq J.nA),(fun _=>k_trans B4 hb),k_trans J.bel hb,(uf hAp)⟩⟩
    ·skip
     have hAp:L 11=false:=(hcl 11 10 (by kernel_rfl) (hcl 10 9 (by kernel_rfl) hLi))
     have hAs:L 12=false:=(hcl 12 11 (by kernel_rfl) (hcl 11 10 (by kernel_rfl) (hcl 10 9 (by kernel_rfl) hLi)))
     have B4:=J.b4 hAp
     obtain rfl:=J.f3 (haft ⟨3,.data⟩ (by simp) rfl)
     obtain rfl:=J.f8 (haft ⟨8,.data⟩ (by simp) rfl)
     go_simp
     go_wp2_with (go_at_call 104;refine (KL.out W).mono ?_;rintro e WN ⟨vt,rfl,hR,hb⟩;have hR2:=(RowS.of_owns hR).base (B':=W1.heap.size) (HBs.out J.bel.size);clear hR)
     exact ⟨_,_,_,_,_,_,_,_,_,_,_,_,_,rfl,⟨(uq J.f0),(uq J.f1),(uq J.f2),(uq J.f3),(uq J.f4),(uq J.f5),(uq J.f6),(uq J.f7),(uq J.f8),(fun _ _=>hR2),(fun h=>by rw [upd_ne rfl,(hcl 10 9 (by kernel_rfl) hLi)] at h;cases h),(uf hAs),(uq J.nA),(fun _=>k_trans B4 hb),k_trans J.bel hb,(uf hAp)⟩⟩
    ·skip
     have hAp:L 11=false:=(hcl 11 10 (by kernel_rfl) hLi)
     have hAs:L 12=false:=(hcl 12 11 (by kernel_rfl) (hcl 11 10 (by kernel_rfl) hLi))
     have B4:=J.b4 hAp
     obtain ⟨a9,c9,rfl⟩:=(J.f9 (haft ⟨9,.data⟩ (by simp) rfl) hAp).form
     go_simp
     exact hK _ _ ⟨_,_,_,_,_,_,_,_,_,_,_,_,_,rfl,⟨(uq J.f0),(uq J.f1),(uq J.f2),(uq J.f3),(uq J.f4),(uq J.f5),(uq J.f6),(uq J.f7),(uq J.f8),(fun h h2=>(J.f9 (un h) (by rwa [upd_ne rfl] at h2)).below (k_alloc (Below.refl _ _) _) (Nat.le_refl _)),(fun _=>⟨_,rfl,fun _=>by simp⟩),(uf hAs),(uq J.nA),(fun _=>k_alloc B4 _),k_alloc J.bel _,(uf hAp)⟩⟩
    ·skip
     have hAp:L 11=false:=hLi
     have hAs:L 12=false:=(hcl 12 11 (by kernel_rfl) hLi)
     have B4:=J.b4 hAp
     obtain rfl:=J.f0 (haft ⟨0,.data⟩ (by simp) rfl)
     obtain ⟨g,rfl,hg⟩:=J.f10 (haft ⟨10,.data⟩ (by simp) rfl)
     have hO4:=ownsRow_keptS HO.out B4
     have hT4:=J.f9 (by cases hz:L 9 with | true=>rfl | false=>have:=hcl 10 9 (by kernel_rfl) hz;rw [(haft ⟨10,.data⟩ (by simp) rfl)] at this;cases this) hAp
     rw [if_pos (by rfl)]
     refine wp_append_own _ (.tmp 24) (.tmp 34) 75 rfl W1.heap.size 56 i0 (.slice none 0 0) 1 24 Tryz.underlying75 hi0 hz0 hz1 hz2 rfl (by decide) _ _ _ rfl hO4 ⟨g,0,none⟩ 1 1 [v33] rfl rfl ?c1 ?c2 ?c3 ?c4 ?c5 ?_
     case c1 =>
      intro i u hi
      match i,hi with
      | 0,hi=>simp at hi;subst hi;simpa [Addr.add] using hg hAp
     case c2=>intro u hu;simp at hu;subst hu;obtain ⟨a9,c9,rfl⟩:=hT4.form;rfl
     case c3=>unfold maxLen;omega
     case c4=>omega
     case c5=>exact HBs.out (J.bel.size)
     intro v' w5 hown' hgrow' _
     have hB5:Below W1.heap.size W1 w5:=J.bel.grown hgrow' J.bel.size (fun q hq=>HBs2.out (hO4.lt q hq).1)
     have hR5:=((HRs.out.kept B4).grown hO4 hgrow').next (hT4.grown hO4 hgrow')
     exact hK _ _ ⟨_,_,_,_,_,_,_,_,_,_,_,_,_,rfl,⟨(uq J.f0),(uq J.f1),(uq J.f2),(uq J.f3),(uq J.f4),(uq J.f5),(uq J.f6),(uq J.f7),(uq J.f8),(fun _ h2=>by rw [upd_self] at h2;cases h2),(fun _=>⟨g,rfl,fun h2=>by rw [upd_self] at h2;cases h2⟩),(uf hAs),(uq J.nA),(fun h=>by rw [upd_self] at h;cases h),hB5,(fun _=>⟨by rw [List.length_append];exact hown',hR5⟩)⟩⟩
    ·skip
     go_simp
     exact hK _ _ ⟨_,_,_,_,_,_,_,_,_,_,_,_,_,rfl,⟨(uq J.f0),(uq J.f1),(uq J.f2),(uq J.f3),(uq J.f4),(uq J.f5),(uq J.f6),(uq J.f7),(uq J.f8),(fun h h2=>J.f9 (un h) (by rwa [upd_ne rfl] at h2)),(ub J.f10),(fun _=>rfl),(fun h=>by rw [upd_self] at h;cases h),(uq J.b4),J.bel,(uq J.ownA)⟩⟩
end Go.Proofs.YtojogjlblgcioanGreat
