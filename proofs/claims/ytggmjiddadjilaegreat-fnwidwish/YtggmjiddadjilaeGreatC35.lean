/-
  PROVED HERE: the program's toTheRest: what is still left goes to others, or to parts, alike; nothing else that was in memory is turned. Also: 8 more texts of the same proof.
-/
import Derived.Test.YtggmjiddadjilaeGreatC34
import Derived.Test.YtggmjiddadjilaeGreatC28
import Derived.Test.YtggmjiddadjilaeGreatC23
import Derived.Test.YtggmjiddadjilaeGreatC12
import Derived.Test.YtggmjiddadjilaeGreatC33
import Derived.Test.YtggmjiddadjilaeGreatC24
import Derived.Test.YtggmjiddadjilaeGreatC8
import Derived.Test.YtggmjiddadjilaeGreatC9
import Derived.Deep.DeepCutAuto
import Derived.Deep.RegionWith
import Derived.Deep.QuietTactic
import Derived.BigQuiet
import Derived.Laws.AppendOwn
import Derived.Laws.Externs
import Derived.Lib.Walk
import Derived.Lib.Slices
namespace Go.Proofs.YtggmjiddadjilaeGreat
open Go.RowKit Go.BigFrame
def restL (t:T) (C:Nat) (left:Int) (L:List Int):List Int :=
 if 0 < (selN (kindP t 0) C).length then addL L (shareL left (oneL (kindP t 0) C)) else if 0 < (selN (kindP t 2) C).length then addL L (shareL left (oneL (kindP t 2) C)) else L
theorem sum_pos:∀ {l:List Int},(∀ x ∈ l,0≤x)→0≤l.sum
 | [],_=>by simp
 | a :: r,h=>by
  have h1:=h a (by simp)
  have h2:=sum_pos (l:=r) (fun x hx=>h x (by simp [hx]))
  simp only [List.sum_cons];omega
theorem le_sum:∀ {l:List Int},(∀ x ∈ l,0≤x)→∀ x ∈ l,x≤l.sum
 | [],_,x,hx=>by cases hx
 | a :: r,h,x,hx=>by
  have h1:=h a (by simp)
  have h2:=sum_pos (l:=r) (fun x hx=>h x (by simp [hx]))
  simp only [List.sum_cons]
  rcases List.mem_cons.1 hx with rfl | hx
  ·omega
  ·have:=le_sum (l:=r) (fun x hx=>h x (by simp [hx])) x hx
   omega
theorem sum_ge {l:List Int} (h:∀ i,i < l.length→0≤l.getD i 0) {i:Nat} (hi:i < l.length):l.getD i 0≤l.sum:=by
 rw [show l.getD i 0=l[i] by simp [List.getD,hi]]
 refine le_sum (fun x hx=>?_) _ (List.getElem_mem hi)
 obtain ⟨j,hj,rfl⟩:=List.mem_iff_getElem.1 hx
 have:=h j hj
 rwa [show l.getD j 0=l[j] by simp [List.getD,hj]] at this
theorem rest_lists {L:List Int} {P:Nat→Bool} {left:Int} {C:Nat} (hLC:L.length=C) (hC:C≤88) (ht:0≤left∧left≤100000) :
  shrOkB left (List.replicate (selN P C).length 0)=true∧(shareL left (List.replicate (selN P C).length 0)).length=(selN P C).length∧(shareL left (List.replicate (selN P C).length 0)).all wtB=true ∧
  (0 < (selN P C).length→giveTo L (selN P C) (shareL left (List.replicate (selN P C).length 0)) (selN P C).length=addL L (shareL left (oneL P C)))∧((selN P C).length=0→giveTo L (selN P C) (shareL left (List.replicate (selN P C).length 0)) (selN P C).length=L):=by
 have hnl:=selN_le P C
 have hok:shrOkB left (List.replicate (selN P C).length 0)=true:=ok_of ht (by simp;omega) (fun i hi=>by rw [List.length_replicate] at hi;simp [List.getD,hi])
 have hl:=shareL_len hok
 rw [List.length_replicate] at hl
 refine ⟨hok,hl,?_,fun h0=>?_,fun h0=>by rw [h0];rfl⟩
 ·by_cases h0:0 < (selN P C).length
  ·refine all_wt (fun i hi=>?_)
   have h1:=shareL_small (t:=left) (l:=List.replicate (selN P C).length 0) i hi
   have h2:=share_sum hok (by simpa using h0)
   have h3:=sum_ge (l:=shareL left (List.replicate (selN P C).length 0)) (fun j hj=>(shareL_small (t:=left) (l:=List.replicate (selN P C).length 0) j hj).1) hi
   omega
  ·have:shareL left (List.replicate (selN P C).length 0)=[]:=List.eq_nil_of_length_eq_zero (by omega)
   rw [this]
   rfl
 ·rw [share_alike_sel P ht (by omega) h0]
  have hok1:=oneL_ok P (n:=C) ht (by omega)
  have h1:=shareL_len hok1
  rw [oneL_len] at h1
  have:=give_all (l:=L) (more:=shareL left (oneL P C)) (P:=P) (by omega) (fun i hi hP=>share_zero hok1 (by rw [oneL_sum];omega) (by rw [oneL_len];omega) (by rw [oneL_get (by omega),if_neg (by rw [hP];simp)]))
  rw [hLC] at this
  exact this
set_option maxRecDepth 100000 in
set_option maxHeartbeats 1000000 in
theorem impltoTheRest (w0:World) (sb:Nat) (ac ar:Option Addr) (cc cr:Nat) (t:T) (width:Int) (g cap C D:Nat) (left:Int) (L:List Int) {z:Nat} (hc:ColsAt w0 z (.slice ac t.cols.length cc) t.cols) (hC:C≤88) (hLC:L.length=C) (hLs:L.all wtB=true) (hg0:w0.heap.size≤g) (hgD:g < D) (hDs:D≤sb) (hleft:0≤left∧left≤100000) (w:World) (h:SpS w0 sb ac ar cc cr t width g cap C D left L w) :
  Calls Tryz.prog 48 #[.pointer (some ⟨sb,0,none⟩)] w fun e w'=>e=.returned (.tuple #[])∧(∃ left',SpS w0 sb ac ar cc cr t width g cap C D left' (restL t C left L) w')∧Bk2 g sb w w':=by
 have H:=Hd h
 have hsbw:sb < w.heap.size:=h.sp.lt
 have HB0:=Hd (Below.refl w.heap.size w)
 have KO:=Hd (fun q W (h:SpS w0 sb ac ar cc cr t width g cap C D left L W)=>implofKind sb ac ar cc cr t width g cap C left q hC W h.sp (hc.kept h.bel))
 clear h hc
 by_cases hn0:0 < (selN (kindP t 0) C).length
 ·have hne:(((selN (kindP t 0) C).length:Int) == 0)=false:=beq_eq_false_iff_ne.2 (by omega)
  go_enter Tryz.func48,Tryz.ntmps48
  go_wp2_with fail
  refine (KO.out 0 _ H.out).mono ?_
  rintro e w1 ⟨v1,rfl,hr1,hb1⟩
  obtain ⟨a1,c1,rfl⟩:=hr1.form
  rw [natL_len] at hr1 ⊢
  have HS1:=Hd (H.out.kept hb1)
  have HB1:=Hd (k_trans HB0.out hb1)
  have HR1:=Hd hr1
  have hz1:=hb1.size
  have hmk:=makeI (selN (kindP t 0) C).length (by have:=selN_le (kindP t 0) C;omega)
  have hnl:=selN_le (kindP t 0) C
  obtain ⟨ok1,len1,all1,give1,give0⟩:=rest_lists (P:=kindP t 0) (L:=L) (left:=left) hLC hC hleft
  have HLt:=Hd (fun k (hk:k < (selN (kindP t 0) C).length)=>(selN_lt hk).1)
  have HFin:Hid (giveTo L (selN (kindP t 0) C) (shareL left (List.replicate (selN (kindP t 0) C).length 0)) (selN (kindP t 0) C).length=restL t C left L):=by
   rw [Hid,restL]
   rw [if_pos hn0]
   exact give1 hn0
  have HA1:=Hd all1
  have HLn:=Hd len1
  have HOk:=Hd ok1
  generalize selN (kindP t 0) C=js at hr1 HR1 hmk hnl HLt HFin HA1 HLn HOk hne hn0 ⊢
  clear hr1 hb1 ok1 len1 all1 give1 give0
  have hA2:=k_alloc (Below.refl w1.heap.size w1) (.cells (newI js.length) 3)
  have HN:=Hd (row_new w1 js.length (by omega))
  have hn2:(w1.alloc (.cells (newI js.length) 3)).heap.size=w1.heap.size+1:=by simp
  have HS2:=Hd (HS1.out.kept hA2)
  have HR2:=Hd (HR1.out.kept (w':=w1.alloc (.cells (newI js.length) 3)) (fun j h0 _ _=>hA2.block j h0))
  have HB2:=Hd (k_trans HB1.out hA2)
  clear HS1 HR1 HB1 hA2
  go_upto_region 4 with fail
  generalize w1.alloc (.cells (newI js.length) 3)=W2 at HN HS2 HR2 HB2 hn2 ⊢
  generalize w1.heap.size=gb at HN HR2 hn2 hz1 ⊢
  have s7:W2.cell? ⟨sb,7,none⟩=some (.int .i64 left):=cellB (p:=7) HS2.out.sp
  have KU:=Hd (shareOut_any left _ _ HOk.out W2 HN.out.at)
  go_wp2_with fail
  refine KU.out.mono ?_
  rintro e w5 ⟨v5,rfl,hr5,hb5⟩
  obtain ⟨a5,c5,rfl⟩:=hr5.form
  have hz5:=hb5.size
  generalize shareL left (List.replicate js.length 0)=G at hr5 HFin HA1 HLn KU ⊢
  have KG:=Hd (implgive sb ac ar cc cr t width g cap C left L G js (.slice a1 js.length c1) (.slice a5 G.length c5) w0.heap.size D w.heap.size hLC HLt.out (by omega) HLn.out hLs HA1.out hleft hgD hDs hsbw w5 (HS2.out.kept hb5).sp (HS2.out.kept hb5).row ((HR2.out.kept (fun j h0 _ _=>hb5.block j h0)).base (by omega) (by omega)) (hr5.base (by omega) (Nat.le_refl _)))
  have HB6:=Hd (k_trans HB2.out hb5)
  have HL6:=Hd ((HS2.out.kept hb5).bel)
  clear KU s7
  go_wp2_with fail
  refine KG.out.mono ?_
  rintro e w6 ⟨rfl,hs6,hr6,hb6⟩
  have HF6:=Hd (SpS.mk (HL6.out.trans (hb6.below HL6.out.size hg0 (by omega))) hs6 hr6)
  rw [HFin.out] at HF6
  have HK6:=Hd ((Bk2.of_below HB6.out).trans hb6)
  clear hs6 hr6 hb6
  go_wp2
  go_end0
  exact ⟨rfl,⟨_,HF6.out⟩,HK6.out⟩
 ·have hl0:(selN (kindP t 0) C).length=0:=by omega
  go_enter Tryz.func48,Tryz.ntmps48
  go_wp2_with fail
  refine (KO.out 0 _ H.out).mono ?_
  rintro e wa ⟨va,rfl,hra,hba⟩
  obtain ⟨aa,ca,rfl⟩:=hra.form
  rw [natL_len,hl0] at hra ⊢
  have Ha:=Hd (H.out.kept hba)
  have HBa:=Hd hba
  have hza:=hba.size
  clear hra hba
  go_wp2_with fail
  refine (KO.out 2 _ Ha.out).mono ?_
  rintro e w1 ⟨v1,rfl,hr1,hb1⟩
  obtain ⟨a1,c1,rfl⟩:=hr1.form
  rw [natL_len] at hr1 ⊢
  have HS1:=Hd (Ha.out.kept hb1)
  have HB1:=Hd (k_trans HBa.out hb1)
  have HR1:=Hd hr1
  have hz1:=hb1.size
  have hmk:=makeI (selN (kindP t 2) C).length (by have:=selN_le (kindP t 2) C;omega)
  have hnl:=selN_le (kindP t 2) C
  obtain ⟨ok1,len1,all1,give1,give0⟩:=rest_lists (P:=kindP t 2) (L:=L) (left:=left) hLC hC hleft
  have HLt:=Hd (fun k (hk:k < (selN (kindP t 2) C).length)=>(selN_lt hk).1)
  have HFin:Hid (giveTo L (selN (kindP t 2) C) (shareL left (List.replicate (selN (kindP t 2) C).length 0)) (selN (kindP t 2) C).length=restL t C left L):=by
   rw [Hid,restL]
   rw [if_neg hn0]
   by_cases hn2:0 < (selN (kindP t 2) C).length
   ·rw [if_pos hn2];exact give1 hn2
   ·rw [if_neg hn2];exact give0 (by omega)
  have HA1:=Hd all1
  have HLn:=Hd len1
  have HOk:=Hd ok1
  generalize selN (kindP t 2) C=js at hr1 HR1 hmk hnl HLt HFin HA1 HLn HOk ⊢
  clear hr1 hb1 ok1 len1 all1 give1 give0
  have hA2:=k_alloc (Below.refl w1.heap.size w1) (.cells (newI js.length) 3)
  have HN:=Hd (row_new w1 js.length (by omega))
  have hn2:(w1.alloc (.cells (newI js.length) 3)).heap.size=w1.heap.size+1:=by simp
  have HS2:=Hd (HS1.out.kept hA2)
  have HR2:=Hd (HR1.out.kept (w':=w1.alloc (.cells (newI js.length) 3)) (fun j h0 _ _=>hA2.block j h0))
  have HB2:=Hd (k_trans HB1.out hA2)
  clear HS1 HR1 HB1 hA2
  go_upto_region 4 with fail
  generalize w1.alloc (.cells (newI js.length) 3)=W2 at HN HS2 HR2 HB2 hn2 ⊢
  generalize w1.heap.size=gb at HN HR2 hn2 hz1 ⊢
  have s7:W2.cell? ⟨sb,7,none⟩=some (.int .i64 left):=cellB (p:=7) HS2.out.sp
  have KU:=Hd (shareOut_any left _ _ HOk.out W2 HN.out.at)
  go_wp2_with fail
  refine KU.out.mono ?_
  rintro e w5 ⟨v5,rfl,hr5,hb5⟩
  obtain ⟨a5,c5,rfl⟩:=hr5.form
  have hz5:=hb5.size
  generalize shareL left (List.replicate js.length 0)=G at hr5 HFin HA1 HLn KU ⊢
  have KG:=Hd (implgive sb ac ar cc cr t width g cap C left L G js (.slice a1 js.length c1) (.slice a5 G.length c5) w0.heap.size D w.heap.size hLC HLt.out (by omega) HLn.out hLs HA1.out hleft hgD hDs hsbw w5 (HS2.out.kept hb5).sp (HS2.out.kept hb5).row ((HR2.out.kept (fun j h0 _ _=>hb5.block j h0)).base (by omega) (by omega)) (hr5.base (by omega) (Nat.le_refl _)))
  have HB6:=Hd (k_trans HB2.out hb5)
  have HL6:=Hd ((HS2.out.kept hb5).bel)
  clear KU s7
  go_wp2_with fail
  refine KG.out.mono ?_
  rintro e w6 ⟨rfl,hs6,hr6,hb6⟩
  have HF6:=Hd (SpS.mk (HL6.out.trans (hb6.below HL6.out.size hg0 (by omega))) hs6 hr6)
  rw [HFin.out] at HF6
  have HK6:=Hd ((Bk2.of_below HB6.out).trans hb6)
  clear hs6 hr6 hb6
  go_wp2
  go_end0
  exact ⟨rfl,⟨_,HF6.out⟩,HK6.out⟩
end Go.Proofs.YtggmjiddadjilaeGreat
namespace Go.Proofs.YtggmjiddadjilaeGreat
open Go.RowKit
theorem addL_zero {L M:List Int} (hl:M.length=L.length) (hs:M.sum=0) (hp:∀ i,i < M.length→0≤M.getD i 0):addL L M=L:=by
 apply ext_getD (addL_len hl)
 intro i hi
 rw [addL_len hl] at hi
 rw [addL_get hl hi]
 have h1:=sum_ge hp (i:=i) (by omega)
 have h2:=hp i (by omega)
 omega
theorem upTo_none {L want:List Int} (hl:want.length=L.length) (hok:shrOkB 0 want=true):addL L (upToL 0 want)=L∧upToN 0 want=0:=by
 obtain ⟨a1,a2,a3,a4,a5⟩:=upTo_total hok
 have hp:∀ i,i < (upToL 0 want).length→0≤(upToL 0 want).getD i 0:=fun i hi=>(a5 i (by omega)).1
 have hs:0≤(upToL 0 want).sum:=sum_pos (fun x hx=>by
  obtain ⟨j,hj,rfl⟩:=List.mem_iff_getElem.1 hx
  have:=hp j hj
  rwa [show (upToL 0 want).getD j 0=(upToL 0 want)[j] by simp [List.getD,hj]] at this)
 exact ⟨addL_zero (by omega) (by omega) hp,by omega⟩
theorem share_none {L:List Int} {P:Nat→Bool} {C:Nat} (hLC:L.length=C) (hC:C≤88) (h0:0 < (selN P C).length):addL L (shareL 0 (oneL P C))=L:=by
 have hok:=oneL_ok P (n:=C) (t:=0) (by omega) (by omega)
 have hl:=shareL_len hok
 rw [oneL_len] at hl
 have hC0:0 < C:=by have:=selN_le P C;omega
 exact addL_zero (by omega) (share_sum hok (by rw [oneL_len];exact hC0)) (fun i hi=>(shareL_small i hi).1)
theorem rest_none {t:T} {C:Nat} {L:List Int} (hLC:L.length=C) (hC:C≤88):restL t C 0 L=L:=by
 unfold restL
 split
 ·rename_i h;exact share_none hLC hC h
 ·split
  ·rename_i h;exact share_none hLC hC h
  ·rfl
theorem wid_rest {t:T} {width:Int} (h:0 < restV t width):widL t width=restL t (colN t) (left2 t width) (out2 t width):=by
 unfold widL restL
 rw [if_neg (by omega)]
theorem wid_two {t:T} (hD:Drawn t) (hok:tblB t=true) {width:Int} (hw:0≤width∧width≤300) (hC:colN t≤88) (h:0 < restV t width) (h2:left2 t width≤0):widL t width=out2 t width:=by
 obtain ⟨_,_,hl2,_,ho2,_⟩:=wid_steps hD hok hw h
 have e:left2 t width=0:=by omega
 rw [wid_rest h,e,rest_none ho2 hC]
theorem wid_one {t:T} (hD:Drawn t) (hok:tblB t=true) {width:Int} (hw:0≤width∧width≤300) (hC:colN t≤88) (h:0 < restV t width) (h1:left1 t width≤0):widL t width=out1 t width:=by
 obtain ⟨ok1,ok2,hl2,ho1,ho2,_⟩:=wid_steps hD hok hw h
 have e:left1 t width=0:=by
  have:=(upTo_total ok1).2.2.1
  unfold left1 at h1 ⊢
  omega
 have e2:out2 t width=out1 t width∧left2 t width=0:=by
  unfold out2 left2
  rw [e] at ok2 ⊢
  exact upTo_none (want2_len _ _) ok2
 rw [wid_two hD hok hw hC h (by omega),e2.1]
theorem wid_no {t:T} {width:Int} (h:restV t width≤0):widL t width=leastL t:=by unfold widL;rw [if_pos h]
theorem out1_wish {t:T} (hD:Drawn t) (hok:tblB t=true) {width:Int} (hw:0≤width∧width≤300) (h:0 < restV t width) {j:Nat} (hj:j < colN t) (hP:kindP t 0 j=true):(out1 t width).getD j 0≤(wishL t).getD j 0:=by
 obtain ⟨_,_,_,_,_,_,hk⟩:=wid_steps hD hok hw h
 have h2:kindP t 2 j=false:=by
  simp only [kindP,decide_eq_true_eq] at hP
  simp [kindP,hP]
 rw [(hk j hj).2.2.1 h2]
 have:=wishL_get hj
 omega
theorem out1_small {t:T} (hD:Drawn t) (hok:tblB t=true) {width:Int} (hw:0≤width∧width≤300) (h:0 < restV t width):(out1 t width).all wtB=true∧(out2 t width).all wtB=true:=by
 obtain ⟨ok1,ok2,_,ho1,ho2,_⟩:=wid_steps hD hok hw h
 have hup:=leastL_up hD
 obtain ⟨a1,a2,a3,a4,a5⟩:=upTo_total ok1
 obtain ⟨b1,b2,b3,b4,b5⟩:=upTo_total ok2
 rw [want1_len] at a1 a5
 rw [want2_len] at b1 b5
 have hr:restV t width≤100000:=(shrOk_parts ok1).1.2
 have hl:left1 t width≤100000:=(shrOk_parts ok2).1.2
 have hll:=leastL_len t
 have s1:∀ i,i < colN t→0≤(out1 t width).getD i 0∧(out1 t width).getD i 0≤5300:=fun i hi=>by
  have h1:=a5 i (by omega)
  have h2:=hup i (by omega)
  have h3:(out1 t width).getD i 0=(leastL t).getD i 0+(upToL (restV t width) (want1 t width (leastL t))).getD i 0:=by unfold out1;exact addL_get (by omega) (by omega)
  rw [want1_get (by omega)] at h1
  have hk:=sd_kind (t:=t) hi
  have hps:=fun hn=>part_small hw (n:=(sd t.cols i).2) hn
  split at h1
  ·rename_i hP
   simp only [kindP,decide_eq_true_eq] at hP
   have:=hps (by omega)
   omega
  ·omega
 refine ⟨all_wt (fun i hi=>by have:=s1 i (by omega);omega),all_wt (fun i hi=>?_)⟩
 have h1:=b5 i (by omega)
 have h2:=s1 i (by omega)
 have h3:(out2 t width).getD i 0=(out1 t width).getD i 0+(upToL (left1 t width) (want2 t (out1 t width))).getD i 0:=by unfold out2;exact addL_get (by omega) (by omega)
 rw [want2_get (by omega)] at h1
 have h4:=wishL_up hD i (by rw [wishL_len];omega)
 split at h1 <;> omega
theorem acr_least {t:T} (hD:Drawn t) (hok:tblB t=true):1≤colN t∧colN t≤88∧acrV (leastL t) t.gap=(leastL t).sum+t.gap * ((colN t:Int) - 1)∧0≤acrV (leastL t) t.gap∧acrV (leastL t) t.gap≤1000000∧(leastL t).all wtB=true:=by
 obtain ⟨_,C,hgc,hC,hcel⟩:=cel_of hD
 have hCN:=colN_of hgc
 have hlen:=leastL_len t
 have hup:=leastL_up hD
 have hall:(leastL t).all wtB=true:=all_wt (fun i hi=>by have:=hup i hi;omega)
 have hs:=sum_bound hall
 have hC1:1≤colN t:=by
  have h1:(gOf t).cols=colsOf (max 1 (t.cols.length:Int)) (gridOf t):=by rw [gOf_ok hok]
  have h2:=colsOf_ge (gridOf t) (max 1 (t.cols.length:Int))
  unfold colN
  omega
 have hg:0≤t.gap∧t.gap≤3:=by
  simp only [tblB,inB,Bool.and_eq_true,decide_eq_true_eq] at hok
  exact hok.2.2.1
 have hg1:0≤t.gap * ((colN t:Int) - 1):=Int.mul_nonneg hg.1 (by omega)
 have hg2:t.gap * ((colN t:Int) - 1)≤3 * 87:=Int.mul_le_mul hg.2 (by omega) (by omega) (by omega)
 have hsb:=sum_upB (l:=leastL t) (B:=5000) (fun x hx=>hup.mem hx)
 have e:acrV (leastL t) t.gap=(leastL t).sum+t.gap * ((colN t:Int) - 1):=by
  rw [acrV_cons (by omega),hlen,W_small (by omega)]
 refine ⟨hC1,by omega,e,by omega,?_,hall⟩
 rw [e]
 omega
theorem share_small {t:Int} {l:List Int} (hok:shrOkB t l=true) (h0:0 < l.length):(shareL t l).all wtB=true:=by
 have ht:=(shrOk_parts hok).1
 refine all_wt (fun i hi=>?_)
 have h1:=shareL_small (t:=t) (l:=l) i hi
 have h2:=share_sum hok h0
 have h3:=sum_ge (l:=shareL t l) (fun j hj=>(shareL_small (t:=t) (l:=l) j hj).1) hi
 omega
def widT (t:T) (width:Int):List Int:=if (tblB t && inB width 0 300)=true then widL t width else []
end Go.Proofs.YtggmjiddadjilaeGreat
namespace Go.Proofs.YtggmjiddadjilaeGreat
open Go.RowKit Go.BigFrame
def cellAt (t:T) (x:GC):C:=(t.rows.getD x.row.toNat dR).cells.getD x.ins.toNat dC
set_option maxRecDepth 100000 in
set_option maxHeartbeats 2000000 in
theorem implcellOf (ac ar:Option Addr) (cc cr:Nat) (t:T) (x:GC) {C:Nat} (hx:Cel t C x) (w:World) {z:Nat} (hr:RowsAt w z (.slice ar t.rows.length cr) t.rows) :
  Calls Tryz.prog 97 #[.agg #[.slice ac t.cols.length cc,.int .i64 t.head,.int .i64 t.foot,.slice ar t.rows.length cr,.int .i64 t.gap],.agg #[.int .i64 x.row,.int .i64 x.col,.int .i64 x.rows,.int .i64 x.cols,.int .i64 x.ins]] w fun e w'=>e=.returned (.agg #[.string (cellAt t x).s,.int .i64 (cellAt t x).c,.int .i64 (cellAt t x).r,.int .i64 (cellAt t x).a1,.int .i64 (cellAt t x).b1,.int .i64 (cellAt t x).a2,.int .i64 (cellAt t x).b2,.int .i64 (cellAt t x).a3,.int .i64 (cellAt t x).b3,.int .i64 (cellAt t x).a4,.int .i64 (cellAt t x).b4])∧(cellAt t x).s.size≤maxLen∧Below w.heap.size w w':=by
 obtain ⟨rn,jn,cn,mn,e1,e2,e3,e4,h1,h2,h3,h4,h5⟩:=hx.ex
 have HTx:Hid (cellAt t x=(t.rows.getD rn dR).cells.getD jn dC):=by rw [Hid,cellAt,e1,e2,Int.toNat_natCast,Int.toNat_natCast]
 have hmx:Tryz.prog.follows .mixedOrders=true:=by kernel_rfl
 have K1:=k_alloc (Below.refl w.heap.size w) (.cells #[.slice ac t.cols.length cc,.int .i64 t.head,.int .i64 t.foot,.slice ar t.rows.length cr,.int .i64 t.gap] 26)
 have X1:=newestB w (.cells #[.slice ac t.cols.length cc,.int .i64 t.head,.int .i64 t.foot,.slice ar t.rows.length cr,.int .i64 t.gap] 26)
 have hs1:(w.alloc (.cells #[.slice ac t.cols.length cc,.int .i64 t.head,.int .i64 t.foot,.slice ar t.rows.length cr,.int .i64 t.gap] 26)).heap.size=w.heap.size+1:=by simp
 rw [e1,e2]
 clear e1 e2 e3 e4
 go_enter Tryz.func97,Tryz.ntmps97
 go_upto_region 1 with fail
 have K2:=k_alloc K1 (.cells #[.int .i64 (rn:Int),.int .i64 x.col,.int .i64 x.rows,.int .i64 x.cols,.int .i64 (jn:Int)] 49)
 have X2:=newestB (w.alloc (.cells #[.slice ac t.cols.length cc,.int .i64 t.head,.int .i64 t.foot,.slice ar t.rows.length cr,.int .i64 t.gap] 26)) (.cells #[.int .i64 (rn:Int),.int .i64 x.col,.int .i64 x.rows,.int .i64 x.cols,.int .i64 (jn:Int)] 49)
 have X1':=(Below.heap_alloc (w.alloc (.cells #[.slice ac t.cols.length cc,.int .i64 t.head,.int .i64 t.foot,.slice ar t.rows.length cr,.int .i64 t.gap] 26)) (.cells #[.int .i64 (rn:Int),.int .i64 x.col,.int .i64 x.rows,.int .i64 x.cols,.int .i64 (jn:Int)] 49) w.heap.size (by omega)).trans X1
 rw [hs1] at X2
 have hs2:((w.alloc (.cells #[.slice ac t.cols.length cc,.int .i64 t.head,.int .i64 t.foot,.slice ar t.rows.length cr,.int .i64 t.gap] 26)).alloc (.cells #[.int .i64 (rn:Int),.int .i64 x.col,.int .i64 x.rows,.int .i64 x.cols,.int .i64 (jn:Int)] 49)).heap.size=w.heap.size+2:=by simp
 generalize (w.alloc (.cells #[.slice ac t.cols.length cc,.int .i64 t.head,.int .i64 t.foot,.slice ar t.rows.length cr,.int .i64 t.gap] 26)).alloc (.cells #[.int .i64 (rn:Int),.int .i64 x.col,.int .i64 x.rows,.int .i64 x.cols,.int .i64 (jn:Int)] 49)=W2 at K2 X2 X1' hs2 ⊢
 have K3:=k_alloc K2 (.cells #[.string ⟨#[]⟩,.int .i64 0,.int .i64 0,.int .i64 0,.int .i64 0,.int .i64 0,.int .i64 0,.int .i64 0,.int .i64 0,.int .i64 0,.int .i64 0] 70)
 have X3:=newestB W2 (.cells #[.string ⟨#[]⟩,.int .i64 0,.int .i64 0,.int .i64 0,.int .i64 0,.int .i64 0,.int .i64 0,.int .i64 0,.int .i64 0,.int .i64 0,.int .i64 0] 70)
 have X1'':=(Below.heap_alloc W2 (.cells #[.string ⟨#[]⟩,.int .i64 0,.int .i64 0,.int .i64 0,.int .i64 0,.int .i64 0,.int .i64 0,.int .i64 0,.int .i64 0,.int .i64 0,.int .i64 0] 70) w.heap.size (by omega)).trans X1'
 have X2':=(Below.heap_alloc W2 (.cells #[.string ⟨#[]⟩,.int .i64 0,.int .i64 0,.int .i64 0,.int .i64 0,.int .i64 0,.int .i64 0,.int .i64 0,.int .i64 0,.int .i64 0,.int .i64 0] 70) (w.heap.size+1) (by omega)).trans X2
 rw [show W2.heap.size=w.heap.size+1+1 by omega] at X3
 generalize W2.alloc (.cells #[.string ⟨#[]⟩,.int .i64 0,.int .i64 0,.int .i64 0,.int .i64 0,.int .i64 0,.int .i64 0,.int .i64 0,.int .i64 0,.int .i64 0,.int .i64 0] 70)=W at K3 X3 X1'' X2' ⊢
 clear K1 X1 hs1 K2 X2 X1' hs2
 obtain ⟨rb,roff,rcap,re,rc1,rc2,rbl,u,hu0,_,hu⟩:=At.get (hr.kept K3) h1
 simp only [Value.slice.injEq,true_and] at re
 obtain ⟨rfl,rfl⟩:=re
 obtain ⟨qb,qoff,qcap,qe,qc1,qc2,qbl,hv,hsl⟩:=At.get hu h2
 subst qe
 obtain ⟨v0,v1,v2,v3,v4,v5,v6,v7,v8,v9,v10⟩:=hv
 have l1:w.heap.size < W.heap.size:=(bL X1'')
 have l2:w.heap.size+1 < W.heap.size:=(bL X2')
 have hne:=bw_some W
 have m0:=bw_cell (a:=⟨w.heap.size,3,none⟩) l1 (cellB (p:=3) X1'')
 have m1:=bw_cell (a:=⟨w.heap.size+1,0,none⟩) l2 (cellB (p:=0) X2')
 have m2:=bw_cell (a:=⟨w.heap.size+1,4,none⟩) l2 (cellB (p:=4) X2')
 have m3:=bw_cell rbl hu0
 have n0:=bw_cell qbl v0
 have n1:=bw_cell qbl v1
 have n2:=bw_cell qbl v2
 have n3:=bw_cell qbl v3
 have n4:=bw_cell qbl v4
 have n5:=bw_cell qbl v5
 have n6:=bw_cell qbl v6
 have n7:=bw_cell qbl v7
 have n8:=bw_cell qbl v8
 have n9:=bw_cell qbl v9
 have n10:=bw_cell qbl v10
 have HSZ:Hid ((cellAt t x).s.size≤maxLen):=by rw [Hid,HTx.out];exact hsl
 have HK:=Hd K3
 have HX3:=Hd X3
 unfold maxLen at rc2 qc2
 generalize (t.rows.getD rn dR).cells.getD jn dC=y at *
 generalize (t.rows.getD rn dR).cells.length=rl at h2 m3 qc1
 clear hu hu0 hr h3 h4 h5 hx K3 X3 X1'' X2' v0 v1 v2 v3 v4 v5 v6 v7 v8 v9 v10 hsl
 refine wp_region_last 11 hmx (by rfl) (by rfl) (by kernel_rfl) (by kernel_rfl) ?_
 simp only [List.take_succ_cons,List.take_zero]
 repeat (go_big_quiet_step (fail))
 refine wpQuiet_nil ?_
 intro W5 hw'
 obtain ⟨⟨Wx,hW5⟩,hw''⟩:=hw'
 subst hw''
 have l3:w.heap.size+1+1 < W.heap.size:=(bL HX3.out)
 have X5:=(hW5.block _ l3).trans HX3.out
 obtain ⟨⟨c0,c1,c2,c3,c4,c5,c6,c7,c8,c9,c10⟩,f0,f1,f2,f3,f4,f5,f6,f7,f8,f9,f10⟩:=cells11 X5
 have HK5:=Hd (k_trans HK.out hW5)
 clear m0 m1 m2 m3 n0 n1 n2 n3 n4 n5 n6 n7 n8 n9 n10 hne hW5 X5
 rw [if_pos (by rfl)]
 go_simp
 go_wp2
 exact bodyPost_ret (v:=.agg #[.string y.s,.int .i64 y.c,.int .i64 y.r,.int .i64 y.a1,.int .i64 y.b1,.int .i64 y.a2,.int .i64 y.b2,.int .i64 y.a3,.int .i64 y.b3,.int .i64 y.a4,.int .i64 y.b4]) (by simp [results,Tryz.results97,go_sem,c0,c1,c2,c3,c4,c5,c6,c7,c8,c9,c10]) rfl ⟨by rw [HTx.out],HSZ.out,HK5.out.trans ((st11_bk W5 (w.heap.size+1+1) (.string y.s) (.int .i64 y.c) (.int .i64 y.r) (.int .i64 y.a1) (.int .i64 y.b1) (.int .i64 y.a2) (.int .i64 y.b2) (.int .i64 y.a3) (.int .i64 y.b3) (.int .i64 y.a4) (.int .i64 y.b4)).below HK5.out.size (by omega))⟩
end Go.Proofs.YtggmjiddadjilaeGreat
namespace Go.Proofs.YtggmjiddadjilaeGreat
open Go.RowKit
theorem text_size {t:T} {x:GC} {C:Nat} (hx:Cel t C x) {w:World} {z:Nat} {v:Value} (hr:RowsAt w z v t.rows):(textOf t x).size≤maxLen:=by
 obtain ⟨rn,jn,cn,mn,e1,e2,e3,e4,h1,h2,h3,h4,h5⟩:=hx.ex
 rw [textOf,e1,e2,Int.toNat_natCast,Int.toNat_natCast]
 obtain ⟨rb,roff,rcap,re,rc1,rc2,rbl,u,hu0,_,hu⟩:=At.get hr h1
 obtain ⟨qb,qoff,qcap,qe,qc1,qc2,qbl,hv,hsl⟩:=At.get hu h2
 exact hsl
theorem field_first (s:ByteArray) (x1 x2 x3 x4 x5 x6 x7 x8 x9 x10:Value) (W:World):(Instr.field 70 (.agg #[.string s,x1,x2,x3,x4,x5,x6,x7,x8,x9,x10]) 0).run Tryz.prog W=.ok (.string s) W:=by kernel_rfl
set_option maxRecDepth 100000 in
set_option maxHeartbeats 2000000 in
theorem impltextOf (ac ar:Option Addr) (cc cr:Nat) (t:T) (x:GC) {C:Nat} (hx:Cel t C x) (w:World) {z:Nat} (hr:RowsAt w z (.slice ar t.rows.length cr) t.rows) :
  Calls Tryz.prog 59 #[.agg #[.slice ac t.cols.length cc,.int .i64 t.head,.int .i64 t.foot,.slice ar t.rows.length cr,.int .i64 t.gap],.agg #[.int .i64 x.row,.int .i64 x.col,.int .i64 x.rows,.int .i64 x.cols,.int .i64 x.ins]] w fun e w'=>e=.returned (.string (textOf t x))∧(textOf t x).size≤maxLen∧Below w.heap.size w w':=by
 have HC:=Hd (implcellOf ac ar cc cr t x hx)
 have hfl:=field_first
 have K2:=k_alloc (k_alloc (Below.refl w.heap.size w) (.cells #[.slice ac t.cols.length cc,.int .i64 t.head,.int .i64 t.foot,.slice ar t.rows.length cr,.int .i64 t.gap] 26)) (.cells #[.int .i64 x.row,.int .i64 x.col,.int .i64 x.rows,.int .i64 x.cols,.int .i64 x.ins] 49)
 have HR:=Hd (hr.kept K2)
 have HK:=Hd K2
 clear hr hx K2
 go_enter Tryz.func59,Tryz.ntmps59
 go_wp2_with fail
 refine (HC.out _ HR.out).mono ?_
 rintro e w1 ⟨rfl,hsz,hb1⟩
 have HK1:=Hd (k_trans HK.out hb1)
 clear hb1 HK HR HC
 go_wp2
 go_ret
 exact ⟨rfl,hsz,HK1.out⟩
set_option maxRecDepth 100000 in
set_option maxHeartbeats 2000000 in
theorem specl5Text (ac ar:Option Addr) (cc cr:Nat) (t:T) (x:GC) {C:Nat} (hx:Cel t C x) (w:World) {z:Nat} (hr:RowsAt w z (.slice ar t.rows.length cr) t.rows) :
  Calls Tryz.prog 104 #[.agg #[.slice ac t.cols.length cc,.int .i64 t.head,.int .i64 t.foot,.slice ar t.rows.length cr,.int .i64 t.gap],.agg #[.int .i64 x.row,.int .i64 x.col,.int .i64 x.rows,.int .i64 x.cols,.int .i64 x.ins]] w fun e w'=>e=.returned (.string (textOf t x))∧(textOf t x).size≤maxLen∧Below w.heap.size w w':=by
 obtain ⟨rn,jn,cn,mn,e1,e2,e3,e4,h1,h2,h3,h4,h5⟩:=hx.ex
 have HTx:Hid (textOf t x=((t.rows.getD rn dR).cells.getD jn dC).s):=by rw [Hid,textOf,e1,e2,Int.toNat_natCast,Int.toNat_natCast]
 have K1:=k_alloc (Below.refl w.heap.size w) (.cells #[.slice ac t.cols.length cc,.int .i64 t.head,.int .i64 t.foot,.slice ar t.rows.length cr,.int .i64 t.gap] 26)
 have X1:=newestB w (.cells #[.slice ac t.cols.length cc,.int .i64 t.head,.int .i64 t.foot,.slice ar t.rows.length cr,.int .i64 t.gap] 26)
 have hs1:(w.alloc (.cells #[.slice ac t.cols.length cc,.int .i64 t.head,.int .i64 t.foot,.slice ar t.rows.length cr,.int .i64 t.gap] 26)).heap.size=w.heap.size+1:=by simp
 rw [e1,e2]
 clear e1 e2 e3 e4
 go_enter Tryz.func104,Tryz.ntmps104
 go_upto_region 1 with fail
 have K2:=k_alloc K1 (.cells #[.int .i64 (rn:Int),.int .i64 x.col,.int .i64 x.rows,.int .i64 x.cols,.int .i64 (jn:Int)] 49)
 have X2:=newestB (w.alloc (.cells #[.slice ac t.cols.length cc,.int .i64 t.head,.int .i64 t.foot,.slice ar t.rows.length cr,.int .i64 t.gap] 26)) (.cells #[.int .i64 (rn:Int),.int .i64 x.col,.int .i64 x.rows,.int .i64 x.cols,.int .i64 (jn:Int)] 49)
 have X1':=(Below.heap_alloc (w.alloc (.cells #[.slice ac t.cols.length cc,.int .i64 t.head,.int .i64 t.foot,.slice ar t.rows.length cr,.int .i64 t.gap] 26)) (.cells #[.int .i64 (rn:Int),.int .i64 x.col,.int .i64 x.rows,.int .i64 x.cols,.int .i64 (jn:Int)] 49) w.heap.size (by omega)).trans X1
 rw [hs1] at X2
 generalize (w.alloc (.cells #[.slice ac t.cols.length cc,.int .i64 t.head,.int .i64 t.foot,.slice ar t.rows.length cr,.int .i64 t.gap] 26)).alloc (.cells #[.int .i64 (rn:Int),.int .i64 x.col,.int .i64 x.rows,.int .i64 x.cols,.int .i64 (jn:Int)] 49)=W at K2 X2 X1' ⊢
 obtain ⟨rb,roff,rcap,re,rc1,rc2,rbl,u,hu0,_,hu⟩:=At.get (hr.kept K2) h1
 simp only [Value.slice.injEq,true_and] at re
 obtain ⟨rfl,rfl⟩:=re
 obtain ⟨qb,qoff,qcap,qe,qc1,qc2,qbl,hv,hsl⟩:=At.get hu h2
 subst qe
 have v0:=hv.1
 have q3:=cellB (p:=3) X1'
 have q0:=cellB (p:=0) X2
 have q4:=cellB (p:=4) X2
 have HSZ:Hid ((textOf t x).size≤maxLen):=by rw [Hid,HTx.out];exact hsl
 have HK:=Hd K2
 unfold maxLen at rc2 qc2
 generalize (t.rows.getD rn dR).cells.getD jn dC=y at v0 hsl HTx
 generalize (t.rows.getD rn dR).cells.length=rl at hu0 h2 qc1
 clear hu hv hr h3 h4 h5 hx K1 X1 hs1 K2 X2 X1'
 go_quiet (fail)
 go_wp2
 go_ret
 exact ⟨by rw [HTx.out];rfl,HSZ.out,k_drewN HK.out nq⟩
theorem infoSt:(Tryz.prog.info? 9).map (fun i=>(i.zero,i.size,i.bytes))=some (some (Value.string ⟨#[]⟩),1,16):=by kernel_rfl
theorem extract_next {s:ByteArray} {j k:Nat} (hj:j≤k) (hk:k < s.size):s.extract j k ++ ⟨#[s[k]]⟩=s.extract j (k+1):=by
 apply Go.WideShapes.bytes_inj
 rw [Joins.data_append,ByteArray.data_extract,ByteArray.data_extract]
 have hk':k < s.data.size:=hk
 rw [Array.toList_extract,Array.toList_extract]
 have e:s[k]=s.data.toList[k]'(by simpa using hk'):=rfl
 rw [e]
 simp only [List.extract_eq_take_drop]
 rw [show k+1 - j=(k - j)+1 by omega,List.take_succ_eq_append_getElem (by rw [List.length_drop];simp;omega),List.getElem_drop]
 simp [show j+(k - j)=k by omega]
set_option maxRecDepth 100000 in
set_option maxHeartbeats 1000000 in
theorem specCut (s:ByteArray) (hok:txtOkB s=true) (hz:0 < s.size) (w:World) :
  Calls Tryz.prog 124 #[.string s] w fun e w'=>∃ v,e=.returned v∧w'.ownsRow w.heap.size 9 1 v (wordsFrom s 0).length ((wordsFrom s 0).map Value.string)∧Below w.heap.size w w':=by
 obtain ⟨i0,hi,hz0,hz1,hz2⟩:=info_parts infoSt
 have h30:s.size≤30:=((txtOkB_iff s).1 hok).1
 go_enter Tryz.func124,Tryz.ntmps124
 go_wp2_with fail
 go_loopw [3,4,5] (fun o c i W=>∃ (k j:Nat) (out:List ByteArray),k≤s.size∧i=.int .i64 k∧c=.string (s.extract j k)∧j≤k∧j < s.size∧Hid (∀ m,j≤m→m < k→ch s m ≠ 32)∧Hid (Start s j)∧Hid (wordsFrom s 0=out ++ wordsFrom s j)∧Hid (W.ownsRow w.heap.size 9 1 o out.length (out.map Value.string))∧Hid (Below w.heap.size w W)) (fun _ _ i _=>s.size - (intOf i).toNat)
 case atStart=>exact ⟨0,0,[],Nat.zero_le _,rfl,congrArg Value.string (by rw [ByteArray.extract_same];rfl),Nat.le_refl _,hz,fun m h1 h2=>absurd h2 (Nat.not_lt_zero _),start_zero hok,(List.nil_append _).symm,World.ownsRow_made w #[] 0 (Nat.le_refl _) (Nat.zero_le _) rfl,k_alloc (Below.refl _ _) _⟩
 case round =>
  obtain ⟨k,j,out,hk,rfl,rfl,hj,hjk,HN,HS,HO,HR,HB⟩:=hrel
  have hol:out.length≤s.size:=by have:=wordsFrom_len s 0;rw [HO.out] at this;simp at this;omega
  by_cases hlt:k < s.size
  ·have HC:Hid (ch s k=(s[k].toNat:Int)):=ch_at hlt
   by_cases hc:(s[k].toNat:Int)=32
   ·have hc':((s[k].toNat:Int) == 32)=true:=beq_iff_eq.2 hc
    go_wp2_with (at_builtin;refine wpList_append_own _ rfl _ _ 54 rfl w.heap.size 9 i0 (.string ⟨#[]⟩) 1 16 Tryz.underlying54 hi hz0 hz1 hz2 rfl (by decide) _ _ _ rfl (HR.out.alloc _) ⟨wr.heap.size,0,none⟩ 1 1 [.string (s.extract j k)] rfl rfl ?c1 ?c2 ?c3 ?c4 ?c5 ?_)
    case c1 =>
     intro i u hi
     match i,hi with
     | 0,hi=>simp at hi;subst hi;simp [Addr.add]
    case c2=>intro u hu;simp at hu;subst hu;rfl
    case c3=>unfold maxLen;omega
    case c4=>omega
    case c5=>have:=HB.out.size;simp;omega
    intro v' w2 hown' hgrow' _
    have HB2:=Hd ((k_alloc HB.out (.cells #[.string (s.extract j k)] 9)).grown hgrow' (by have:=HB.out.size;simp;omega) (fun b hb=>(HR.out.lt b hb).1))
    have HE:Hid (wend s j=k):=wend_of HN.out hj (Nat.le_of_lt hlt) (fun _=>HC.out.trans hc)
    have hk1:k+1 < s.size:=by
     have hg:=((txtOkB_iff s).1 hok).2 k hlt
     simp [goodB,HC.out.trans hc] at hg
     omega
    have HW2:Hid (wordsFrom s 0=(out ++ [s.extract j k]) ++ wordsFrom s (k+1)):=by
     show _=_
     rw [HO.out,wordsFrom_go hjk,HE.out];simp
    have HS2:Hid (Start s (k+1)):=by
     have:=(start_next hok hjk HS.out).2.2.1
     rw [HE.out] at this
     exact this
    have HR2:=Hd hown'
    obtain ⟨g',cap',rfl⟩:=Joins.ownsRow_form hown' (by omega)
    clear hown' hgrow' HR HB
    go_wp2
    go_roundw
    case rel=>exact ⟨k+1,k+1,out ++ [s.extract j k],by omega,by go_num,congrArg Value.string (by rw [ByteArray.extract_same];rfl),Nat.le_refl _,hk1,fun m h1 h2=>absurd h2 (by omega),HS2,HW2,by rw [List.length_append,List.map_append];exact HR2,HB2⟩
    case measure=>simp [intOf];omega
   ·have hc':((s[k].toNat:Int) == 32)=false:=beq_eq_false_iff_ne.2 hc
    have hcv:(convert 22 9 (.slice (some ⟨wr.heap.size,0,none⟩) 1 1)).run Tryz.prog (wr.alloc (.cells #[.int .u8 (s[k].toNat:Int)] 5))=.ok (.string ⟨#[s[k]]⟩) (wr.alloc (.cells #[.int .u8 (s[k].toNat:Int)] 5)) :=
     run_convert_bytes_back _ _ _ 5 ⟨wr.heap.size,0,none⟩ 1 [s[k]] Tryz.underlying22 Tryz.underlying5 Tryz.underlying9 (fun i hi=>by
      match i,hi with
      | 0,_=>simp [Addr.add])
    have hz1:¬ 9223372036854775807 < (s.extract j k).size+1:=by rw [ByteArray.size_extract];omega
    have HX:=Hd (extract_next hj hlt)
    have hc2:ch s k ≠ 32:=fun h=>hc (HC.out.symm.trans h)
    have HN2:Hid (∀ m,j≤m→m < k+1→ch s m ≠ 32):=fun m h1 h2=>by
     rcases Nat.lt_or_eq_of_le (Nat.lt_succ_iff.1 h2) with h3 | rfl
     ·exact HN.out m h1 h3
     ·exact hc2
    go_wp2
    go_roundw
    case rel=>exact ⟨k+1,j,out,by omega,by go_num,congrArg Value.string HX.out,by omega,hjk,HN2,HS,HO,HR.out.alloc _,k_alloc HB.out _⟩
    case measure=>simp [intOf];omega
  ·obtain rfl:k=s.size:=by omega
   have HE:Hid (wend s j=s.size):=wend_of HN.out hj (Nat.le_refl _) (fun h=>absurd h (Nat.lt_irrefl _))
   have HW2:Hid (wordsFrom s 0=out ++ [s.extract j s.size]):=by
    show _=_
    rw [HO.out,wordsFrom_go hjk,HE.out,wordsFrom_end (by omega)]
   go_wp2_with (at_builtin;refine wpList_append_own _ rfl _ _ 54 rfl w.heap.size 9 i0 (.string ⟨#[]⟩) 1 16 Tryz.underlying54 hi hz0 hz1 hz2 rfl (by decide) _ _ _ rfl (HR.out.alloc _) ⟨wr.heap.size,0,none⟩ 1 1 [.string (s.extract j s.size)] rfl rfl ?c1 ?c2 ?c3 ?c4 ?c5 ?_)
   case c1 =>
    intro i u hi
    match i,hi with
    | 0,hi=>simp at hi;subst hi;simp [Addr.add]
   case c2=>intro u hu;simp at hu;subst hu;rfl
   case c3=>unfold maxLen;omega
   case c4=>omega
   case c5=>have:=HB.out.size;simp;omega
   intro v' w2 hown' hgrow' _
   have HB2:=Hd ((k_alloc HB.out (.cells #[.string (s.extract j s.size)] 9)).grown hgrow' (by have:=HB.out.size;simp;omega) (fun b hb=>(HR.out.lt b hb).1))
   have HR2:=Hd hown'
   obtain ⟨g',cap',rfl⟩:=Joins.ownsRow_form hown' (by omega)
   clear hown' hgrow' HR HB
   go_wp2
   go_ret
   exact ⟨_,rfl,by rw [HW2.out,List.length_append,List.map_append];exact HR2.out,HB2.out⟩
theorem words_get {w:World} {B:Nat} {v:Value} {l:List ByteArray} (h:w.ownsRow B 9 1 v l.length (l.map Value.string)) {i:Nat} (hi:i < l.length) :
  ∃ g cap,v=.slice (some ⟨g,0,none⟩) l.length cap∧l.length≤cap∧cap≤maxLen∧w.cell? ⟨g,i,none⟩=some (.string l[i]):=by
 rcases h.2 with ⟨_,h0⟩ | ⟨g,cap,cur,hv,_,hg,h1,h2,h3,h4⟩
 ·omega
 ·refine ⟨g,cap,hv,h1,h2,?_⟩
  rw [cellB hg]
  have:cur.toList[i]?=(l.map Value.string)[i]?:=by rw [← h4,List.getElem?_take_of_lt (by omega)]
  rw [← Array.getElem?_toList,this]
  simp [hi]
set_option maxRecDepth 100000 in
set_option maxHeartbeats 1000000 in
theorem specTxtWords (s:ByteArray) (hs:s.size≤maxLen) (w:World) :
  Calls Tryz.prog 117 #[.string s] w fun e w'=>∃ v,e=.returned v∧w'.ownsRow w.heap.size 9 1 v (wordsW s).length ((wordsW s).map (fun x=>Value.string x.1))∧Below w.heap.size w w':=by
 by_cases hz:s.size=0
 ·have hw0:wordsW s=[]:=by
   rw [wordsW]
   split
   ·rw [wordsFrom_end (by omega)];rfl
   ·rfl
  have hnil:=toList_nil hz
  have HW:=Hd hw0
  clear hw0
  go_enter Tryz.func117,Tryz.ntmps117
  go_wp2
  all_goals
   go_ret
   exact ⟨_,rfl,by rw [HW.out];exact World.ownsRow_made w #[] 0 (Nat.le_refl _) (Nat.zero_le _) rfl,k_alloc (Below.refl _ _) _⟩
 ·have he:¬ s.toList=[]:=fun h=>hz (size_nil h)
  have he':s.toList.isEmpty=false:=by simpa using he
  cases hok:txtOkB s with
  | false =>
   have hw0:wordsW s=[]:=by rw [wordsW,if_neg (by rw [hok];simp)]
   go_enter Tryz.func117,Tryz.ntmps117
   have HW:=Hd hw0
   clear hw0
   go_wp2_with (go_at_call 70;refine (specTxtOk s w hs).mono ?_;rintro e w' ⟨rfl,rfl⟩;rw [hok])
   go_ret
   exact ⟨_,rfl,by rw [HW.out];exact World.ownsRow_made w' #[] 0 (Nat.le_refl _) (Nat.zero_le _) rfl,k_alloc (Below.refl _ _) _⟩
  | true =>
   have hp:0 < s.size:=by omega
   go_enter Tryz.func117,Tryz.ntmps117
   go_wp2_with (first
    | (go_at_call 70;refine (specTxtOk s _ hs).mono ?_;rintro e w' ⟨rfl,rfl⟩;rw [hok])
    | (go_at_call 124;refine (specCut s hok hp _).mono ?_;rintro e w' ⟨v,rfl,hv,hb⟩))
   go_ret
   exact ⟨_,rfl,by rw [words_len hok,words_map hok];exact hv,hb⟩
theorem wordsAt {w:World} {B:Nat} {v:Value} {l:List W30} (h:w.ownsRow B 9 1 v l.length (l.map (fun x=>Value.string x.1))) {i:Nat} (hi:i < l.length) :
  ∃ g cap,v=.slice (some ⟨g,0,none⟩) l.length cap∧l.length≤cap∧cap≤maxLen∧w.cell? ⟨g,i,none⟩=some (.string l[i].1):=by
 have e:l.map (fun x=>Value.string x.1)=(l.map (fun x=>x.1)).map Value.string:=by rw [List.map_map];rfl
 have el:l.length=(l.map (fun x:W30=>x.1)).length:=(List.length_map ..).symm
 rw [e,el] at h
 obtain ⟨g,cap,h1,h2,h3,h4⟩:=words_get h (i:=i) (by rw [List.length_map];exact hi)
 refine ⟨g,cap,by rw [el];exact h1,by rw [el];exact h2,h3,?_⟩
 rw [h4];simp
theorem words_form {w:World} {B:Nat} {v:Value} {l:List W30} (h:w.ownsRow B 9 1 v l.length (l.map (fun x=>Value.string x.1))):∃ a cap,v=.slice a l.length cap:=by
 rcases h.2 with ⟨hv,h0⟩ | ⟨g,cap,cur,hv,_⟩
 ·exact ⟨none,0,by rw [h0];exact hv⟩
 ·exact ⟨_,_,hv⟩
theorem l1Max_anyW (a b:Int) (w:World):Calls Tryz.prog 64 #[.int .i64 a,.int .i64 b] w fun e w'=>e=.returned (.int .i64 (max a b))∧w'=w:=by
 by_cases h:b < a
 ·have e:max a b=a:=by omega
  rw [e]
  go_enter Tryz.func64,Tryz.ntmps64
  go_wp2
  go_ret
  exact ⟨rfl,rfl⟩
 ·have e:max a b=b:=by omega
  rw [e]
  go_enter Tryz.func64,Tryz.ntmps64
  go_wp2
  go_ret
  exact ⟨rfl,rfl⟩
theorem leastOf_take {l:List W30} {k:Nat} (h:k < l.length):leastOf (l.take (k+1))=max (leastOf (l.take k)) l[k].1.size:=by
 rw [List.take_succ_eq_append_getElem h,leastOf_snoc]
set_option maxRecDepth 100000 in
set_option maxHeartbeats 1000000 in
theorem specTxtLeast (s:ByteArray) (hs:s.size≤maxLen) (w:World) :
  Calls Tryz.prog 105 #[.string s] w fun e w'=>e=.returned (.int .i64 (leastOf (wordsW s)))∧Below w.heap.size w w':=by
 have hlen:=wordsW_len s
 have HW:=Hd (specTxtWords s hs)
 generalize wordsW s=l at HW hlen ⊢
 go_enter Tryz.func105,Tryz.ntmps105
 go_wp2_with fail
 refine (HW.out _).mono ?_
 rintro e w1 ⟨v,rfl,hv,hb⟩
 have HV:=Hd hv
 have HB:=Hd hb
 obtain ⟨a,cap,rfl⟩:=words_form hv
 clear hv hb
 go_wp2_with fail
 go_loop [4,5] (fun n i=>∃ k:Nat,k≤l.length∧i=.int .i64 k∧n=.int .i64 (leastOf (l.take k))) (fun _ i=>l.length - (intOf i).toNat)
 case atStart=>exact ⟨0,Nat.zero_le _,rfl,rfl⟩
 case round =>
  obtain ⟨k,hk,rfl,rfl⟩:=hrel
  by_cases hlt:k < l.length
  ·obtain ⟨g,cap',e',h1,h2,hx⟩:=wordsAt HV.out hlt
   simp only [Value.slice.injEq,true_and] at e'
   obtain ⟨rfl,rfl⟩:=e'
   have HS:=Hd (leastOf_take hlt)
   have h3:=l[k].2
   have h4:=leastOf_le (l.take k)
   generalize l[k]=x at hx HS h3
   unfold maxLen at h2
   go_wp2_with (go_at_call 64;refine (l1Max_anyW _ _ _).mono ?_;rintro e w' ⟨rfl,rfl⟩)
   go_round
   case rel=>exact ⟨k+1,by omega,by go_num,by rw [HS.out];go_num⟩
   case measure=>simp [intOf];omega
  ·obtain rfl:k=l.length:=by omega
   go_wp2
   go_ret
   exact ⟨rfl,HB.out⟩
end Go.Proofs.YtggmjiddadjilaeGreat
