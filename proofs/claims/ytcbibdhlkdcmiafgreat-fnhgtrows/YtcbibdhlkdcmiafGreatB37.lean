/-
  PROVED HERE: the program's WidCols at a drawn table and any width: the list widT, in memory of its own; nothing that was in memory is turned. Also: the model's l5Text is the text of a cell at its place in a drawn table; nothing that was in memory is turned. Also: what the model's TxtLeast answers: how long the longest of a text's words is; nothing that was in memory is turned.
-/
import Derived.Test.YtcbibdhlkdcmiafGreatB34
import Derived.Test.YtcbibdhlkdcmiafGreatB35
import Derived.Test.YtcbibdhlkdcmiafGreatB33
import Derived.Test.YtcbibdhlkdcmiafGreatB36
import Derived.Test.YtcbibdhlkdcmiafGreatB28
import Derived.Test.YtcbibdhlkdcmiafGreatB21
import Derived.Test.YtcbibdhlkdcmiafGreatB31
import Derived.Test.YtcbibdhlkdcmiafGreatB4
import Derived.Deep.DeepCutAuto
import Derived.Deep.RegionWith
import Derived.Deep.QuietTactic
import Derived.BigQuiet
namespace Go.Proofs.YtcbibdhlkdcmiafGreat
open Go.RowKit Go.BigFrame

/-- what is there behind k steps -/
def CondW (t:T) (width:Int) (k:Nat) (left:Int) (L:List Int):Prop :=
 (k=0∧L=leastL t∧left=restV t width) ∨
 (k=1∧(0 < restV t width∧L=out1 t width∧left=left1 t width∨left≤0∧L=widL t width)) ∨
 (k=2∧(0 < restV t width∧L=out2 t width∧left=left2 t width∨left≤0∧L=widL t width)) ∨
 (k=3∧L=widL t width)
theorem cond3 {t:T} {width left:Int} {L:List Int} (h:CondW t width 3 left L):L=widL t width:=by
 rcases h with ⟨h,_⟩ | ⟨h,_⟩ | ⟨h,_⟩ | ⟨_,h⟩
 ·omega
 ·omega
 ·omega
 ·exact h
theorem cond_no {t:T} {width left:Int} {L:List Int} {k:Nat} (h:CondW t width k left L) (hn:¬ 0 < left) (hk:k < 3) (h0:restV t width≤0→widL t width=leastL t) (h1:0 < restV t width→left1 t width≤0→widL t width=out1 t width) (h2:0 < restV t width→left2 t width≤0→widL t width=out2 t width):CondW t width (k+1) left L:=by
 rcases h with ⟨rfl,rfl,rfl⟩ | ⟨rfl,h⟩ | ⟨rfl,h⟩ | ⟨h,_⟩
 ·exact .inr (.inl ⟨rfl,.inr ⟨by omega,(h0 (by omega)).symm⟩⟩)
 ·refine .inr (.inr (.inl ⟨rfl,.inr ?_⟩))
  rcases h with ⟨a,rfl,rfl⟩ | ⟨a,b⟩
  ·exact ⟨by omega,(h1 a (by omega)).symm⟩
  ·exact ⟨a,b⟩
 ·refine .inr (.inr (.inr ⟨rfl,?_⟩))
  rcases h with ⟨a,rfl,rfl⟩ | ⟨a,b⟩
  ·exact (h2 a (by omega)).symm
  ·exact b
 ·omega
theorem cond_yes {t:T} {width left:Int} {L:List Int} {k:Nat} (h:CondW t width k left L) (hp:0 < left) (hk:k < 3):0 < restV t width∧(k=0∧L=leastL t∧left=restV t width∨k=1∧L=out1 t width∧left=left1 t width∨k=2∧L=out2 t width∧left=left2 t width):=by
 rcases h with ⟨rfl,rfl,rfl⟩ | ⟨rfl,h⟩ | ⟨rfl,h⟩ | ⟨h,_⟩
 ·exact ⟨hp,.inl ⟨rfl,rfl,rfl⟩⟩
 ·rcases h with ⟨a,rfl,rfl⟩ | ⟨a,b⟩
  ·exact ⟨a,.inr (.inl ⟨rfl,rfl,rfl⟩)⟩
  ·omega
 ·rcases h with ⟨a,rfl,rfl⟩ | ⟨a,b⟩
  ·exact ⟨a,.inr (.inr ⟨rfl,rfl,rfl⟩)⟩
  ·omega
 ·omega
set_option maxRecDepth 100000 in
set_option maxHeartbeats 1000000 in
theorem implWidCols (ac ar:Option Addr) (cc cr:Nat) (t:T) (hD:Drawn t) (width:Int) (w:World) {z:Nat} (hc:ColsAt w z (.slice ac t.cols.length cc) t.cols) (hr:RowsAt w z (.slice ar t.rows.length cr) t.rows) :
  Calls Tryz.prog 8 #[.agg #[.slice ac t.cols.length cc,.int .i64 t.head,.int .i64 t.foot,.slice ar t.rows.length cr,.int .i64 t.gap],.int .i64 width] w fun e w'=>∃ v,e=.returned v∧RowI w' w.heap.size w'.heap.size v (widT t width)∧Below w.heap.size w w':=by
 have hmx:Tryz.prog.follows .mixedOrders=true:=by kernel_rfl
 have hmf:∀ (fn:Fn) (first cap:Array Value) (W:World),(Instr.makeFunc fn first cap).run Tryz.prog W=.ok (.func fn first cap) W:=fun _ _ _ _=>rfl
 have HK0:=Hid.intro (k_alloc (Below.refl w.heap.size w) (.cells #[.slice ac t.cols.length cc,.int .i64 t.head,.int .i64 t.foot,.slice ar t.rows.length cr,.int .i64 t.gap] 26))
 have HX:=Hid.intro (newestB w (.cells #[.slice ac t.cols.length cc,.int .i64 t.head,.int .i64 t.foot,.slice ar t.rows.length cr,.int .i64 t.gap] 26))
 have HT:=Hid.intro (And.intro (hc.kept HK0.out) (hr.kept HK0.out))
 have HT0:=Hid.intro (And.intro hc hr)
 have hs1:(w.alloc (.cells #[.slice ac t.cols.length cc,.int .i64 t.head,.int .i64 t.foot,.slice ar t.rows.length cr,.int .i64 t.gap] 26)).heap.size=w.heap.size+1:=by simp
 clear hc hr
 go_enter Tryz.func8,Tryz.ntmps8
 go_upto_region 1 with fail
 generalize w.alloc (.cells #[.slice ac t.cols.length cc,.int .i64 t.head,.int .i64 t.foot,.slice ar t.rows.length cr,.int .i64 t.gap] 26)=W1 at HK0 HX HT hs1 ⊢
 have b0:W1.cell? ⟨w.heap.size,0,none⟩=some (.slice ac t.cols.length cc):=cellB HX.out
 have b1:W1.cell? ⟨w.heap.size,1,none⟩=some (.int .i64 t.head):=cellB HX.out
 have b2:W1.cell? ⟨w.heap.size,2,none⟩=some (.int .i64 t.foot):=cellB HX.out
 have b3:W1.cell? ⟨w.heap.size,3,none⟩=some (.slice ar t.rows.length cr):=cellB HX.out
 have b4:W1.cell? ⟨w.heap.size,4,none⟩=some (.int .i64 t.gap):=cellB HX.out
 have KM:=Hid.intro (implmayBeWide ac ar cc cr t width _ HT.out.1 HT.out.2)
 cases hmay:(tblB t && inB width 0 300) with
 | false =>
  have HW:Hid (widT t width=[]):=by rw [Hid,widT,if_neg (by rw [hmay];simp)]
  rw [hmay] at KM
  clear hmay
  go_wp2_with fail
  refine KM.out.mono ?_
  rintro e w2 ⟨rfl,hb2⟩
  have HK2:=Hid.intro (k_trans HK0.out hb2)
  clear hb2 KM b0 b1 b2 b3 b4
  go_wp2
  go_ret
  exact ⟨_,rfl,by rw [HW.out];exact .inl ⟨rfl,rfl⟩,HK2.out⟩
 | true =>
  have HW:Hid (widT t width=widL t width):=by rw [Hid,widT,if_pos hmay]
  rw [hmay] at KM
  rw [Bool.and_eq_true] at hmay
  obtain ⟨htk,hin⟩:=hmay
  have hw:0≤width∧width≤300:=by simpa [inB] using hin
  obtain ⟨hC1,hC88,hacr,ha0,ha1,hall⟩:=acr_least hD htk
  have hlen:=leastL_len t
  have HrV:Hid (restV t width=width - acrV (leastL t) t.gap):=by rw [Hid,hacr];rfl
  have HA:=Hid.intro (fun W v (h:IntsAt W v (leastL t))=>implacrossAll v (leastL t) t.gap W h)
  generalize acrV (leastL t) t.gap=A at HrV HA ha0 ha1 hacr
  clear hacr
  go_wp2_with fail
  refine KM.out.mono ?_
  rintro e w2 ⟨rfl,hb2⟩
  have X2:=(hb2.block w.heap.size (by omega)).trans HX.out
  have HK2:=Hid.intro (k_trans HK0.out hb2)
  have hz2:w.heap.size+1≤w2.heap.size:=by have:=hb2.size;omega
  clear hb2 KM b0 b1 b2 b3 b4 HX HT
  have b0:w2.cell? ⟨w.heap.size,0,none⟩=some (.slice ac t.cols.length cc):=cellB X2
  have b1:w2.cell? ⟨w.heap.size,1,none⟩=some (.int .i64 t.head):=cellB X2
  have b2:w2.cell? ⟨w.heap.size,2,none⟩=some (.int .i64 t.foot):=cellB X2
  have b3:w2.cell? ⟨w.heap.size,3,none⟩=some (.slice ar t.rows.length cr):=cellB X2
  have b4:w2.cell? ⟨w.heap.size,4,none⟩=some (.int .i64 t.gap):=cellB X2
  have HX2:=Hid.intro X2
  clear X2
  go_wp2_with fail
  refine (implColLeast ac ar cc cr t hD _ (HT0.out.1.kept HK2.out) (HT0.out.2.kept HK2.out)).mono ?_
  rintro e w3 ⟨v3,rfl,hR3,hb3⟩
  obtain ⟨g,cap,e3,hgB,hgD,hgw,hc1,hc2,_,_⟩:=hR3.get (i:=0) (by omega)
  subst e3
  have X3:=(hb3.block w.heap.size (by omega)).trans HX2.out
  have HK3:=Hid.intro (k_trans HK2.out hb3)
  have HR3:=Hid.intro hR3
  have hz3:=hb3.size
  clear hb3 b0 b1 b2 b3 b4 HX2 HK2 hR3
  go_upto_region 4 with fail
  rw [hlen] at HR3
  have l3:w.heap.size < w3.heap.size:=by omega
  have hne:=bw_some w3
  have m0:=bw_cell (a:=⟨w.heap.size,0,none⟩) l3 (cellB (p:=0) X3)
  have m1:=bw_cell (a:=⟨w.heap.size,1,none⟩) l3 (cellB (p:=1) X3)
  have m2:=bw_cell (a:=⟨w.heap.size,2,none⟩) l3 (cellB (p:=2) X3)
  have m3:=bw_cell (a:=⟨w.heap.size,3,none⟩) l3 (cellB (p:=3) X3)
  have m4:=bw_cell (a:=⟨w.heap.size,4,none⟩) l3 (cellB (p:=4) X3)
  have KA:=Hid.intro (fun (p:BW w3)=>bw_same (HA.out p.u _ (HR3.out.at.kept p.h)))
  refine wp_region_tail 10 1 hmx (by rfl) (by rfl) (by kernel_rfl) (by kernel_rfl) (by kernel_rfl) ?_
  simp only [List.take_succ_cons,List.take_zero]
  repeat (go_big_quiet_step (first | (go_at_call 36;refine KA.out _)))
  refine wpQuiet_nil ?_
  intro W5 hw'
  obtain ⟨⟨Wx,hW5⟩,hw''⟩:=hw'
  subst hw''
  have X5:=(hW5.block w.heap.size l3).trans X3
  have HK5:=Hid.intro (k_trans HK3.out hW5)
  have HR5:=Hid.intro (HR3.out.kept (fun j h0 _ _=>hW5.block j h0))
  have hz5:=hW5.size
  have HS5:=Hid.intro (newestB W5 (.cells #[.slice ac t.cols.length cc,.int .i64 t.head,.int .i64 t.foot,.slice ar t.rows.length cr,.int .i64 t.gap,.int .i64 width,.slice (some ⟨g,0,none⟩) (colN t) cap,.int .i64 (width - A)] 62))
  clear m0 m1 m2 m3 m4 hne hW5 X3 HR3 HK3 KA X5
  rw [if_pos (by rfl)]
  go_simp
  refine wpAny_ready (rs:=[11]) (by kernel_rfl) (by simp) ?_
  refine AllReady.cons rfl (fun K hK=>?_) AllReady.nil
  go_simp
  refine hK _ _ ?_
  clear hK K
  refine wpAny_done (by kernel_rfl) ?_ _
  have HS6:=Hid.intro (SpS.mk (w0:=w) (D:=W5.heap.size) (k_alloc HK5.out _) HS5.out ((HR5.out.kept (w':=W5.alloc (.cells #[.slice ac t.cols.length cc,.int .i64 t.head,.int .i64 t.foot,.slice ar t.rows.length cr,.int .i64 t.gap,.int .i64 width,.slice (some ⟨g,0,none⟩) (colN t) cap,.int .i64 (width - A)] 62)) (fun j h0 _ _=>Below.heap_alloc _ _ _ h0)).base (by omega) (by omega)))
  rw [← HrV.out] at HS6 ⊢
  have hg0:w.heap.size≤g:=by omega
  have hgD5:g < W5.heap.size:=by omega
  have hs6:(W5.alloc (.cells #[.slice ac t.cols.length cc,.int .i64 t.head,.int .i64 t.foot,.slice ar t.rows.length cr,.int .i64 t.gap,.int .i64 width,.slice (some ⟨g,0,none⟩) (colN t) cap,.int .i64 (restV t width)] 62)).heap.size=W5.heap.size+1:=by simp
  generalize W5.alloc (.cells #[.slice ac t.cols.length cc,.int .i64 t.head,.int .i64 t.foot,.slice ar t.rows.length cr,.int .i64 t.gap,.int .i64 width,.slice (some ⟨g,0,none⟩) (colN t) cap,.int .i64 (restV t width)] 62)=W6 at HS6 hs6 ⊢
  generalize W5.heap.size=sb at HS6 hs6 hgD5 ⊢
  clear HS5 HR5 HK5 hz5
  go_upto_region 6 with fail
  have HS7:=Hid.intro (HS6.out.kept (k_alloc (Below.refl W6.heap.size W6) (.cells #[.func (.func 37) #[.pointer (some ⟨sb,0,none⟩)] #[],.func (.func 38) #[.pointer (some ⟨sb,0,none⟩)] #[],.func (.func 39) #[.pointer (some ⟨sb,0,none⟩)] #[]] 1)))
  have HF7:=Hid.intro (newestB W6 (.cells #[.func (.func 37) #[.pointer (some ⟨sb,0,none⟩)] #[],.func (.func 38) #[.pointer (some ⟨sb,0,none⟩)] #[],.func (.func 39) #[.pointer (some ⟨sb,0,none⟩)] #[]] 1))
  rw [hs6] at HF7
  generalize W6.alloc (.cells #[.func (.func 37) #[.pointer (some ⟨sb,0,none⟩)] #[],.func (.func 38) #[.pointer (some ⟨sb,0,none⟩)] #[],.func (.func 39) #[.pointer (some ⟨sb,0,none⟩)] #[]] 1)=W7 at HS7 HF7 ⊢
  clear HS6 hs6
  have HWno:=Hid.intro (fun h=>wid_no (t:=t) (width:=width) h)
  have HW1:=Hid.intro (fun h=>wid_one hD htk hw hC88 h)
  have HW2:=Hid.intro (fun h=>wid_two hD htk hw hC88 h)
  have HWr:=Hid.intro (fun h=>wid_rest (t:=t) (width:=width) h)
  have HSt:=Hid.intro (fun h=>wid_steps hD htk hw h)
  have HSm:=Hid.intro (fun h=>out1_small hD htk hw h)
  have HOw:=Hid.intro (fun h (j:Nat) (hj:j < colN t) (hP:kindP t 0 j=true)=>out1_wish hD htk hw h hj hP)
  go_wp2_with fail
  go_loopw [36] (fun s W=>∃ (k:Nat) (left:Int) (L:List Int),s=.int .i64 k∧k≤3∧Hid (SpS w sb ac ar cc cr t width g cap (colN t) sb left L W)∧Hid (W.heap[sb+1]?=some (.cells #[.func (.func 37) #[.pointer (some ⟨sb,0,none⟩)] #[],.func (.func 38) #[.pointer (some ⟨sb,0,none⟩)] #[],.func (.func 39) #[.pointer (some ⟨sb,0,none⟩)] #[]] 1))∧Hid (CondW t width k left L)) (fun s _=>3 - (intOf s).toNat)
  case atStart=>exact ⟨0,_,_,rfl,Nat.zero_le _,HS7,HF7,.inl ⟨rfl,rfl,rfl⟩⟩
  case round =>
   obtain ⟨k,left,L,rfl,hk,HS,HF,HC⟩:=hrel
   have s7:wr.cell? ⟨sb,7,none⟩=some (.int .i64 left):=cellB (p:=7) HS.out.sp
   have s6:wr.cell? ⟨sb,6,none⟩=some (.slice (some ⟨g,0,none⟩) (colN t) cap):=cellB (p:=6) HS.out.sp
   have f0:wr.cell? ⟨sb+1,0,none⟩=some (.func (.func 37) #[.pointer (some ⟨sb,0,none⟩)] #[]):=cellB (p:=0) HF.out
   have f1:wr.cell? ⟨sb+1,1,none⟩=some (.func (.func 38) #[.pointer (some ⟨sb,0,none⟩)] #[]):=cellB (p:=1) HF.out
   have f2:wr.cell? ⟨sb+1,2,none⟩=some (.func (.func 39) #[.pointer (some ⟨sb,0,none⟩)] #[]):=cellB (p:=2) HF.out
   by_cases hk3:k=3
   ·subst hk3
    have HL:=Hid.intro (cond3 HC.out)
    go_wp2
    go_ret
    exact ⟨_,rfl,by rw [HW.out,← HL.out];exact HS.out.row.base (Nat.le_refl _) (Nat.le_of_lt HS.out.sp.lt),HS.out.bel⟩
   by_cases hpos:0 < left
   case neg =>
    have HN:=Hid.intro (cond_no HC.out hpos (by omega) HWno.out HW1.out HW2.out)
    rcases (by omega:k=0∨k=1∨k=2) with rfl | rfl | rfl
    all_goals
     go_wp2
     go_roundw
     case rel=>exact ⟨_,left,L,by go_num,by omega,HS,HF,HN⟩
     case measure=>simp [intOf]
   case pos =>
    obtain ⟨hV,hst⟩:=cond_yes HC.out hpos (by omega)
    clear HC
    rcases hst with ⟨rfl,rfl,rfl⟩ | ⟨rfl,rfl,rfl⟩ | ⟨rfl,rfl,rfl⟩
    ·have hst:=HSt.out hV
     have HKe:=Hid.intro (impltoParts w sb ac ar cc cr t width g cap (colN t) sb (restV t width) (leastL t) HT0.out.1 hC88 rfl hlen hall hg0 hgD5 (Nat.le_refl _) hw hst.1 wr HS.out)
     clear hst
     go_wp2_with (go_at_call 37;refine HKe.out.mono ?_;rintro e w8 ⟨rfl,hS8,hb8⟩;replace HF:=Hid.intro ((hb8.block (sb+1) (Array.getElem?_eq_some_iff.1 HF.out).1 (by omega) (by omega)).trans HF.out);clear hb8 HKe s6 s7 f0 f1 f2)
     go_roundw
     case rel=>exact ⟨1,_,_,by go_num,by omega,hS8,HF,.inr (.inl ⟨rfl,.inl ⟨hV,rfl,rfl⟩⟩)⟩
     case measure=>simp [intOf]
    ·have hst:=HSt.out hV
     have HKe:=Hid.intro (impltoWishes w sb ac ar cc cr t width g cap (colN t) sb (left1 t width) (out1 t width) hD HT0.out.1 HT0.out.2 (HOw.out hV) hC88 rfl hst.2.2.2.1 (HSm.out hV).1 hg0 hgD5 (Nat.le_refl _) hst.2.1 wr HS.out)
     clear hst
     go_wp2_with (go_at_call 38;refine HKe.out.mono ?_;rintro e w8 ⟨rfl,hS8,hb8⟩;replace HF:=Hid.intro ((hb8.block (sb+1) (Array.getElem?_eq_some_iff.1 HF.out).1 (by omega) (by omega)).trans HF.out);clear hb8 HKe s6 s7 f0 f1 f2)
     go_roundw
     case rel=>exact ⟨2,_,_,by go_num,by omega,hS8,HF,.inr (.inr (.inl ⟨rfl,.inl ⟨hV,rfl,rfl⟩⟩))⟩
     case measure=>simp [intOf]
    ·have hst:=HSt.out hV
     have HKe:=Hid.intro (impltoTheRest w sb ac ar cc cr t width g cap (colN t) sb (left2 t width) (out2 t width) HT0.out.1 hC88 hst.2.2.2.2.1 (HSm.out hV).2 hg0 hgD5 (Nat.le_refl _) (by have:=hst.2.2.1;omega) wr HS.out)
     clear hst
     go_wp2_with (go_at_call 39;refine HKe.out.mono ?_;rintro e w8 ⟨rfl,⟨left8,hS8⟩,hb8⟩;replace HF:=Hid.intro ((hb8.block (sb+1) (Array.getElem?_eq_some_iff.1 HF.out).1 (by omega) (by omega)).trans HF.out);clear hb8 HKe s6 s7 f0 f1 f2)
     go_roundw
     case rel=>exact ⟨3,_,_,by go_num,by omega,hS8,HF,.inr (.inr (.inr ⟨rfl,(HWr.out hV).symm⟩))⟩
     case measure=>simp [intOf]
end Go.Proofs.YtcbibdhlkdcmiafGreat
namespace Go.Proofs.YtcbibdhlkdcmiafGreat
open Go.RowKit

set_option maxRecDepth 100000 in
set_option maxHeartbeats 2000000 in
theorem specl5Text (ac ar:Option Addr) (cc cr:Nat) (t:T) (x:GC) {C:Nat} (hx:Cel t C x) (w:World) {z:Nat} (hr:RowsAt w z (.slice ar t.rows.length cr) t.rows) :
  Calls Tryz.prog 98 #[.agg #[.slice ac t.cols.length cc,.int .i64 t.head,.int .i64 t.foot,.slice ar t.rows.length cr,.int .i64 t.gap],.agg #[.int .i64 x.row,.int .i64 x.col,.int .i64 x.rows,.int .i64 x.cols,.int .i64 x.ins]] w fun e w'=>e=.returned (.string (textOf t x))∧(textOf t x).size≤maxLen∧Below w.heap.size w w':=by
 obtain ⟨rn,jn,cn,mn,e1,e2,e3,e4,h1,h2,h3,h4,h5⟩:=hx.ex
 have HTx:Hid (textOf t x=((t.rows.getD rn dR).cells.getD jn dC).s):=by rw [Hid,textOf,e1,e2,Int.toNat_natCast,Int.toNat_natCast]
 have K1:=k_alloc (Below.refl w.heap.size w) (.cells #[.slice ac t.cols.length cc,.int .i64 t.head,.int .i64 t.foot,.slice ar t.rows.length cr,.int .i64 t.gap] 26)
 have X1:=newestB w (.cells #[.slice ac t.cols.length cc,.int .i64 t.head,.int .i64 t.foot,.slice ar t.rows.length cr,.int .i64 t.gap] 26)
 have hs1:(w.alloc (.cells #[.slice ac t.cols.length cc,.int .i64 t.head,.int .i64 t.foot,.slice ar t.rows.length cr,.int .i64 t.gap] 26)).heap.size=w.heap.size+1:=by simp
 rw [e1,e2]
 clear e1 e2 e3 e4
 go_enter Tryz.func98,Tryz.ntmps98
 go_upto_region 1 with fail
 have K2:=k_alloc K1 (.cells #[.int .i64 (rn:Int),.int .i64 x.col,.int .i64 x.rows,.int .i64 x.cols,.int .i64 (jn:Int)] 50)
 have X2:=newestB (w.alloc (.cells #[.slice ac t.cols.length cc,.int .i64 t.head,.int .i64 t.foot,.slice ar t.rows.length cr,.int .i64 t.gap] 26)) (.cells #[.int .i64 (rn:Int),.int .i64 x.col,.int .i64 x.rows,.int .i64 x.cols,.int .i64 (jn:Int)] 50)
 have X1':=(Below.heap_alloc (w.alloc (.cells #[.slice ac t.cols.length cc,.int .i64 t.head,.int .i64 t.foot,.slice ar t.rows.length cr,.int .i64 t.gap] 26)) (.cells #[.int .i64 (rn:Int),.int .i64 x.col,.int .i64 x.rows,.int .i64 x.cols,.int .i64 (jn:Int)] 50) w.heap.size (by omega)).trans X1
 rw [hs1] at X2
 generalize (w.alloc (.cells #[.slice ac t.cols.length cc,.int .i64 t.head,.int .i64 t.foot,.slice ar t.rows.length cr,.int .i64 t.gap] 26)).alloc (.cells #[.int .i64 (rn:Int),.int .i64 x.col,.int .i64 x.rows,.int .i64 x.cols,.int .i64 (jn:Int)] 50)=W at K2 X2 X1' ⊢
 obtain ⟨rb,roff,rcap,re,rc1,rc2,rbl,u,hu0,_,hu⟩:=At.get (hr.kept K2) h1
 simp only [Value.slice.injEq,true_and] at re
 obtain ⟨rfl,rfl⟩:=re
 obtain ⟨qb,qoff,qcap,qe,qc1,qc2,qbl,hv,hsl⟩:=At.get hu h2
 subst qe
 have v0:=hv.1
 have q3:=cellB (p:=3) X1'
 have q0:=cellB (p:=0) X2
 have q4:=cellB (p:=4) X2
 have HSZ:Hid ((textOf t x).size≤maxLen):=by rw [Hid,HTx.out];exact hsl
 have HK:=Hid.intro K2
 unfold maxLen at rc2 qc2
 generalize (t.rows.getD rn dR).cells.getD jn dC=y at v0 hsl HTx
 generalize (t.rows.getD rn dR).cells.length=rl at hu0 h2 qc1
 clear hu hv hr h3 h4 h5 hx K1 X1 hs1 K2 X2 X1'
 go_quiet (fail)
 go_wp2
 go_ret
 exact ⟨by rw [HTx.out];rfl,HSZ.out,k_drewN HK.out nq⟩
end Go.Proofs.YtcbibdhlkdcmiafGreat
namespace Go.Proofs.YtcbibdhlkdcmiafGreat
open Go.RowKit

/-- the model's l1Max -/
theorem l1Max_anyW (a b:Int) (w:World):Calls Tryz.prog 84 #[.int .i64 a,.int .i64 b] w fun e w'=>e=.returned (.int .i64 (max a b))∧w'=w:=by
 by_cases h:b < a
 ·have e:max a b=a:=by omega
  rw [e]
  go_enter Tryz.func84,Tryz.ntmps84
  go_wp2
  go_ret
  exact ⟨rfl,rfl⟩
 ·have e:max a b=b:=by omega
  rw [e]
  go_enter Tryz.func84,Tryz.ntmps84
  go_wp2
  go_ret
  exact ⟨rfl,rfl⟩
theorem leastOf_take {l:List W30} {k:Nat} (h:k < l.length):leastOf (l.take (k+1))=max (leastOf (l.take k)) l[k].1.size:=by
 rw [List.take_succ_eq_append_getElem h,leastOf_snoc]

set_option maxRecDepth 100000 in
set_option maxHeartbeats 1000000 in
theorem specTxtLeast (s:ByteArray) (hs:s.size≤maxLen) (w:World) :
  Calls Tryz.prog 133 #[.string s] w fun e w'=>e=.returned (.int .i64 (leastOf (wordsW s)))∧Below w.heap.size w w':=by
 have hlen:=wordsW_len s
 have HW:=Hid.intro (specTxtWords s hs)
 generalize wordsW s=l at HW hlen ⊢
 go_enter Tryz.func133,Tryz.ntmps133
 go_wp2_with fail
 refine (HW.out _).mono ?_
 rintro e w1 ⟨v,rfl,hv,hb⟩
 have HV:=Hid.intro hv
 have HB:=Hid.intro hb
 obtain ⟨a,cap,rfl⟩:=words_form hv
 clear hv hb
 go_wp2_with fail
 go_loop [4,5] (fun n i=>∃ k:Nat,k≤l.length∧i=.int .i64 k∧n=.int .i64 (leastOf (l.take k))) (fun _ i=>l.length - (intOf i).toNat)
 case atStart=>exact ⟨0,Nat.zero_le _,rfl,rfl⟩
 case round =>
  obtain ⟨k,hk,rfl,rfl⟩:=hrel
  by_cases hlt:k < l.length
  ·obtain ⟨g,cap',e',h1,h2,hx⟩:=wordsAt HV.out hlt
   simp only [Value.slice.injEq,true_and] at e'
   obtain ⟨rfl,rfl⟩:=e'
   have HS:=Hid.intro (leastOf_take hlt)
   have h3:=l[k].2
   have h4:=leastOf_le (l.take k)
   generalize l[k]=x at hx HS h3
   unfold maxLen at h2
   go_wp2_with (go_at_call 84;refine (l1Max_anyW _ _ _).mono ?_;rintro e w' ⟨rfl,rfl⟩)
   go_round
   case rel=>exact ⟨k+1,by omega,by go_num,by rw [HS.out];go_num⟩
   case measure=>simp [intOf];omega
  ·obtain rfl:k=l.length:=by omega
   go_wp2
   go_ret
   exact ⟨rfl,HB.out⟩
end Go.Proofs.YtcbibdhlkdcmiafGreat
